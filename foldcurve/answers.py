"""What is told of turns: folds that make them, or two of them that no folds make."""

from foldcurve.checks import is_count, is_turns, is_whole
from foldcurve.creases import creases, in_turn, part_of
from foldcurve.errors import FoldError


class Answer:
    pass


class Folds(Answer):
    def __init__(self, folds):
        self.folds = folds

    def shows(self, turns, first):
        if not is_turns(turns):
            return False
        try:
            made = creases(self.folds, first, len(turns))
        except FoldError:
            return False
        return made == turns


class Unlike(Answer):
    def __init__(self, one, other):
        self.one = one
        self.other = other

    def shows(self, turns, first):
        if not is_turns(turns) or not is_count(first):
            return False
        if not is_whole(self.one) or not is_whole(self.other):
            return False
        if not 0 <= self.one < self.other < len(turns):
            return False
        return are_unlike(turns, first, self.one, self.other)


def are_unlike(turns, first, one, other):
    if part_of(first + one) != part_of(first + other):
        return False
    # Each turn of a part tells what the fold of that part must be; two folds at once can't be.
    return in_turn(turns[one], first + one) != in_turn(turns[other], first + other)
