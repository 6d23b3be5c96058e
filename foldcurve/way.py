"""The way that a folded strip makes when each crease is opened to a quarter."""

from foldcurve.checks import is_whole
from foldcurve.creases import lefts, steps
from foldcurve.errors import BadSteps

QUARTERS = {"l": 1, "r": -1}
# One step by each heading.
STEPS = ((1, 0), (0, 1), (-1, 0), (0, -1))


# The creases of part 0 alternate. So each two steps round one of them lead as far as one step of the way by the further
# folds alone, made longer and turned by half a quarter, always to the side of fold 0. The place is reckoned from the
# last fold to the first: each one makes two steps of every step so far, and an odd step, if there is one, is added.
def place(folds, many):
    need_many(folds, many)
    above = many >> len(folds)
    spot = (above, 0)
    # The quarters that the creases of the parts above make together.
    turned = 0
    for part in range(len(folds) - 1, -1, -1):
        quarter = QUARTERS[folds[part]]
        odd = (many >> part) & 1
        spot = with_corners(spot, quarter)
        # Two creases of a part that follow each other undo each other: only whether there is one left over matters,
        # ahead of the odd step and then behind it.
        if odd == 1:
            spot = one_further(spot, turned + quarter * above)
        turned += quarter * (above ^ odd)
        above = odd
    return spot


def heading(folds, many):
    need_many(folds, many)
    if many == 0:
        return 0
    passed = many - 1
    left = lefts(folds, passed)
    right = passed - left
    return (left - right) % 4


def need_many(folds, many):
    bound = steps(folds)
    if not is_whole(many) or many < 0 or many > bound:
        raise BadSteps("no whole number from 0 to the count of steps")


def with_corners(spot, quarter):
    return (spot[0] - quarter * spot[1], spot[1] + quarter * spot[0])


def one_further(spot, quarters):
    step = STEPS[quarters % 4]
    return (spot[0] + step[0], spot[1] + step[1])
