"""What is asked of everything that is handed in."""

from foldcurve.errors import BadFolds


# The words of an error never show what was handed in: a number may be too long to be written out,
# and a value of an unknown kind may fail when it is shown.
def need_folds(folds):
    if not isinstance(folds, str) or folds.count("l") + folds.count("r") != len(folds):
        raise BadFolds("folds are a text of the letters l and r alone")


def is_whole(value):
    return isinstance(value, int) and not isinstance(value, bool)
