"""Points 3, 4 and 5: the way against one that is walked here step by step, and against one that is unfolded."""

import inspect
import itertools
import unittest

from foldcurve.creases import backwards, exchanged
from foldcurve.way import heading, place

OTHER = {"l": "r", "r": "l"}
QUARTER = {"l": 1, "r": 3}
BY_HEADING = [(1, 0), (0, 1), (-1, 0), (0, -1)]

# Of no sort of pattern, so that a letter taken from the wrong place shows.
MANY_LETTERS = (
    "lrrlrlllrrlrrrlllrlrlrrllrrrrlrllllrrlrlrr" * 3 + "rl" * 41 + "l" * 57 + "r" * 61 + "lrrl" * 13,
    "l" * 300,
    "r" * 301,
    "lr" * 200,
    "r" * 599 + "l",
    "l" * 599 + "r",
)


def few_letters(most):
    for length in range(most + 1):
        for letters in itertools.product("lr", repeat=length):
            yield "".join(letters)


def part_of(count):
    part = 0
    while count % 2 == 0:
        count //= 2
        part += 1
    return part


def strip(folds):
    """All creases, in their turn, from the first one to the last: each part's ways alternate from its fold's."""
    ahead = {}
    ways = []
    for count in range(1, 2 ** len(folds)):
        part = part_of(count)
        ahead[part] = OTHER[ahead[part]] if part in ahead else folds[part]
        ways.append(ahead[part])
    return "".join(ways)


def reckoned_crease(folds, count):
    part = part_of(count)
    return folds[part] if (count // 2**part - 1) // 2 % 2 == 0 else OTHER[folds[part]]


def turned(spot, quarters):
    for _ in range(quarters % 4):
        spot = (-spot[1], spot[0])
    return spot


def plus(one, other):
    return (one[0] + other[0], one[1] + other[1])


def minus(one, other):
    return (one[0] - other[0], one[1] - other[1])


def walked(ways, all_steps):
    """Places and headings behind 0, 1, 2 and so on steps, by point 4's own words."""
    spots = [(0, 0)]
    headings = [0]
    towards = 0
    for step in range(1, all_steps + 1):
        spots.append(plus(spots[-1], BY_HEADING[towards]))
        headings.append(towards)
        if step <= len(ways):
            towards = (towards + QUARTER[ways[step - 1]]) % 4
    return spots, headings


def unfolded(folds, many):
    """The place behind so many steps, by unfolding: the last fold's second half, gone from its end, is as the first
    half gone from the beginning, turned by a quarter round the crease between."""
    ends = [(1, 0)]
    for fold in folds:
        ends.append(plus(ends[-1], turned(ends[-1], QUARTER[fold])))
    in_second_half = []
    for part in reversed(range(len(folds))):
        if many > 2**part:
            in_second_half.append(part)
            many = 2 ** (part + 1) - many
    spot = (many, 0)
    for part in reversed(in_second_half):
        spot = plus(ends[part], turned(minus(ends[part], spot), QUARTER[folds[part]]))
    return spot


def some_counts(folds):
    """Counts of steps all over the way: the first ones, the last ones and some between."""
    whole = 2 ** len(folds)
    yield from range(1, 130)
    yield from range(whole - 130, whole)
    for part in range(0, len(folds), 23):
        for odd in (1, 3, 5, 7, 2**61 - 1, 2**200 + 3):
            for near in (-1, 0, 1):
                if 0 < odd * 2**part + near < whole:
                    yield odd * 2**part + near
    for share in (3, 5, 7, 11, 13, 1000003):
        yield whole // share
        yield whole - whole // share


class TheOracle(unittest.TestCase):
    """The ways of reckoning used here agree with each other where all of them can be used."""

    def test_a_known_way(self):
        spots, headings = walked("llr", 4)
        self.assertEqual(spots, [(0, 0), (1, 0), (1, 1), (0, 1), (0, 2)])
        self.assertEqual(headings, [0, 0, 1, 2, 1])

    def test_they_agree(self):
        for folds in few_letters(7):
            spots = walked(strip(folds), 2 ** len(folds))[0]
            self.assertEqual([unfolded(folds, many) for many in range(2 ** len(folds) + 1)], spots)


class FewLetters(unittest.TestCase):
    def test_no_folds(self):
        self.assertEqual((place("", 0), heading("", 0)), ((0, 0), 0))
        self.assertEqual((place("", 1), heading("", 1)), ((1, 0), 0))

    def test_one_fold(self):
        self.assertEqual([place("l", many) for many in range(3)], [(0, 0), (1, 0), (1, 1)])
        self.assertEqual([place("r", many) for many in range(3)], [(0, 0), (1, 0), (1, -1)])
        self.assertEqual([heading("l", many) for many in range(3)], [0, 0, 1])
        self.assertEqual([heading("r", many) for many in range(3)], [0, 0, 3])

    def test_every_place_and_heading(self):
        for folds in few_letters(8):
            spots, headings = walked(strip(folds), 2 ** len(folds))
            for many in range(2 ** len(folds) + 1):
                self.assertEqual(place(folds, many), spots[many], (folds, many))
                self.assertEqual(heading(folds, many), headings[many], (folds, many))


class ManyLetters(unittest.TestCase):
    def test_first_counts_walked(self):
        for folds in MANY_LETTERS:
            spots, headings = walked(strip(folds[:10]), 1023)
            for many in range(1024):
                self.assertEqual(place(folds, many), spots[many])
                self.assertEqual(heading(folds, many), headings[many])

    def test_places_unfolded(self):
        for folds in MANY_LETTERS:
            for many in itertools.chain([0, 2 ** len(folds)], some_counts(folds)):
                self.assertEqual(place(folds, many), unfolded(folds, many))

    def test_one_step_more_is_one_further_by_the_heading_then(self):
        for folds in MANY_LETTERS:
            for many in some_counts(folds):
                further = minus(place(folds, many + 1), place(folds, many))
                self.assertEqual(further, BY_HEADING[heading(folds, many + 1)])

    def test_each_heading_is_the_one_ahead_turned_by_the_crease_between(self):
        for folds in MANY_LETTERS:
            for many in some_counts(folds):
                quarter = QUARTER[reckoned_crease(folds, many)]
                self.assertEqual(heading(folds, many + 1), (heading(folds, many) + quarter) % 4)

    def test_beginning(self):
        for folds in MANY_LETTERS:
            self.assertEqual((place(folds, 0), place(folds, 1)), ((0, 0), (1, 0)))
            self.assertEqual((heading(folds, 0), heading(folds, 1)), (0, 0))

    def test_thousands_of_letters(self):
        folds = "lrr" * 1000
        whole = 2 ** len(folds)
        for many in (1, 2, whole // 3, whole // 2, whole - 1, whole):
            self.assertEqual(place(folds, many), unfolded(folds, many))
            further = minus(place(folds, many), place(folds, many - 1))
            self.assertEqual(further, BY_HEADING[heading(folds, many)])


class NoStepTwice(unittest.TestCase):
    def apart(self, folds):
        spots = [place(folds, many) for many in range(2 ** len(folds) + 1)]
        gone = {frozenset(pair) for pair in zip(spots, spots[1:])}
        self.assertEqual(len(gone), 2 ** len(folds), folds)

    def test_all_folds_of_some_letters(self):
        for folds in few_letters(8):
            self.apart(folds)

    def test_some_folds_of_more_letters(self):
        for folds in ("l" * 13, "r" * 13, "lr" * 6, "rrl" * 4, "lrrlrllrrllrl"):
            self.apart(folds)


class Exchanged(unittest.TestCase):
    def mirrored(self, folds, many):
        other = exchanged(folds)
        east, north = place(folds, many)
        self.assertEqual(place(other, many), (east, -north))
        self.assertEqual(heading(other, many), -heading(folds, many) % 4)

    def test_few_letters(self):
        for folds in few_letters(7):
            for many in range(2 ** len(folds) + 1):
                self.mirrored(folds, many)

    def test_many_letters(self):
        for folds in MANY_LETTERS:
            for many in itertools.chain([0, 2 ** len(folds)], some_counts(folds)):
                self.mirrored(folds, many)


class Backwards(unittest.TestCase):
    def gone_back(self, folds, many):
        whole = 2 ** len(folds)
        back = backwards(folds)
        last = heading(folds, whole)
        # The last step is the first one backwards, and heads the other way there: that is to be the east.
        from_end = minus(place(folds, whole - many), place(folds, whole))
        self.assertEqual(place(back, many), turned(from_end, -(last + 2)))
        if many > 0:
            self.assertEqual(heading(back, many), (heading(folds, whole - many + 1) - last) % 4)

    def test_few_letters(self):
        for folds in few_letters(7):
            for many in range(2 ** len(folds) + 1):
                self.gone_back(folds, many)

    def test_many_letters(self):
        for folds in MANY_LETTERS:
            for many in itertools.chain([0, 2 ** len(folds)], some_counts(folds)):
                self.gone_back(folds, many)


class Interface(unittest.TestCase):
    def test_names_and_arguments(self):
        for function in (place, heading):
            self.assertEqual(list(inspect.signature(function).parameters), ["folds", "many"])
            self.assertEqual(function.__module__, "foldcurve.way")

    def test_kinds(self):
        for folds in ("", "l", "r", "lr", "rrl", "lrr" * 100):
            for many in (0, 1, 2 ** len(folds) // 3, 2 ** len(folds) - 1, 2 ** len(folds)):
                spot = place(folds, many)
                self.assertIs(type(spot), tuple)
                self.assertEqual([type(number) for number in spot], [int, int])
                self.assertIs(type(heading(folds, many)), int)
                self.assertIn(heading(folds, many), (0, 1, 2, 3))


if __name__ == "__main__":
    unittest.main()
