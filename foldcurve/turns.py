"""Whether turns are creases of a folded strip, from a crease on."""

from foldcurve.answers import Folds, Unlike
from foldcurve.checks import need_count, need_turns
from foldcurve.creases import in_turn, part_of


def told(turns, first):
    need_turns(turns)
    need_count(first)
    # Just enough folds for the last turn; those of parts that no turn has may go either way.
    folds = ["l"] * (first + len(turns) - 1).bit_length()
    earliest = {}
    for place, turn in enumerate(turns):
        count = first + place
        part = part_of(count)
        fold = in_turn(turn, count)
        if part not in earliest:
            earliest[part] = place
            folds[part] = fold
        elif folds[part] != fold:
            return Unlike(earliest[part], place)
    return Folds("".join(folds))
