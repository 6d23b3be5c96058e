"""What is asked of everything that is handed in."""

from foldcurve.errors import BadCrease, BadFolds, BadTurns


# The words of an error never show what was handed in: a number may be too long to be written out,
# and a value of an unknown kind may fail when it is shown.
def need_folds(folds):
    if not is_letters(folds):
        raise BadFolds("folds are a text of the letters l and r alone")


def need_turns(turns):
    if not is_turns(turns):
        raise BadTurns("turns are a text of one letter l or r or more")


def need_count(first):
    if not is_count(first):
        raise BadCrease("creases are counted by whole numbers from 1 on")


def is_letters(value):
    return isinstance(value, str) and value.count("l") + value.count("r") == len(value)


def is_turns(value):
    return is_letters(value) and len(value) > 0


def is_whole(value):
    return isinstance(value, int) and not isinstance(value, bool)


def is_count(value):
    return is_whole(value) and value >= 1
