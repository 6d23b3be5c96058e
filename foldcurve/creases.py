"""The creases of a folded strip: which way each one goes, and how many go left."""

from foldcurve.checks import is_whole, need_folds
from foldcurve.errors import BadCrease

OTHER = {"l": "r", "r": "l"}


def steps(folds):
    need_folds(folds)
    return 1 << len(folds)


def crease(folds, count):
    bound = steps(folds)
    if not is_whole(count) or count < 1 or count >= bound:
        raise BadCrease("no whole number that counts a crease of these folds")
    return way_of(folds, count)


def lefts(folds, many):
    bound = steps(folds)
    if not is_whole(many) or many < 0 or many >= bound:
        raise BadCrease("no whole number from 0 to how many creases there are")
    total = 0
    rest = many
    for fold in folds:
        # What is left of the count has each crease of this part at an odd place, and those of further parts at
        # the even ones; halving it leaves the further parts alone.
        made = (rest + 1) >> 1
        # The ways alternate, so only of an odd number does it matter which one comes first.
        total += (made + 1 if fold == "l" else made) >> 1
        rest = rest >> 1
    return total


def creases(folds, first, many):
    bound = steps(folds)
    if not is_whole(first) or not is_whole(many) or first < 1 or many < 0 or first + many > bound:
        raise BadCrease("no whole numbers from 1 and from 0 on that are together no more than the steps")
    return "".join([way_of(folds, count) for count in range(first, first + many)])


def exchanged(folds):
    need_folds(folds)
    return "".join([OTHER[fold] for fold in folds])


def backwards(folds):
    need_folds(folds)
    if len(folds) == 0:
        return ""
    # Every part but the last one has an even number of creases, which alternate: turned round and exchanged, they
    # are as they were. The last part has one crease alone, and that one is exchanged.
    return folds[:-1] + OTHER[folds[-1]]


def way_of(folds, count):
    return in_turn(folds[part_of(count)], count)


def part_of(count):
    return (count & -count).bit_length() - 1


# Exchanging undoes itself, so this leads from a fold to the way of its crease as well as back from there to the fold.
def in_turn(letter, count):
    # The odd number that is left when the 2s are gone tells the place within the part, from 0 on, by its half.
    place = count >> (part_of(count) + 1)
    return OTHER[letter] if place & 1 else letter
