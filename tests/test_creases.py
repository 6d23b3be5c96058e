"""Points 1, 2 and 3: every crease against a strip that is reckoned here by point 1's own words."""

import inspect
import itertools
import unittest

from foldcurve.creases import backwards, crease, creases, exchanged, lefts, steps

OTHER = {"l": "r", "r": "l"}

# Of no sort of pattern, so that a letter taken from the wrong place shows.
MANY_LETTERS = (
    "lrrlrlllrrlrrrlllrlrlrrllrrrrlrllllrrlrlrr" * 3 + "rl" * 41 + "l" * 57 + "r" * 61 + "lrrl" * 13,
    "l" * 300,
    "r" * 301,
    "lr" * 200,
    "r" * 699 + "l",
    "l" * 699 + "r",
)


def few_letters(most):
    for length in range(most + 1):
        for letters in itertools.product("lr", repeat=length):
            yield "".join(letters)


def part_of(count):
    part = 0
    while count % 2 == 0:
        count //= 2
        part += 1
    return part


def strip(folds):
    """All creases, in their turn, from the first one to the last: each part's ways alternate from its fold's."""
    ahead = {}
    ways = []
    for count in range(1, 2 ** len(folds)):
        part = part_of(count)
        ahead[part] = OTHER[ahead[part]] if part in ahead else folds[part]
        ways.append(ahead[part])
    return "".join(ways)


def first_creases(folds, many):
    """The first creases of folds that are too many to be walked: only the parts that come there matter."""
    return strip(folds[: many.bit_length()])[:many]


def last_creases(folds, many):
    """The last creases, walked from the end: of each part but the last one an even number is there."""
    behind = {}
    ways = []
    for from_end in range(1, many + 1):
        part = part_of(from_end)
        if part in behind:
            behind[part] = OTHER[behind[part]]
        else:
            behind[part] = folds[part] if part == len(folds) - 1 else OTHER[folds[part]]
        ways.append(behind[part])
    return "".join(reversed(ways))


def some_between(folds):
    """Counts all over the strip, with parts low and high and places odd and even."""
    for part in range(0, len(folds), 7):
        for odd in (1, 3, 5, 7, 2**61 - 1, 2**64 + 1, 2**200 + 3):
            count = odd * 2**part
            if count < 2 ** len(folds):
                yield count
    whole = 2 ** len(folds)
    for share in (3, 5, 7, 11, 13, 1000003):
        yield whole // share
        yield whole - whole // share


def reckoned(folds, count):
    part = part_of(count)
    place = (count // 2**part - 1) // 2
    return folds[part] if place % 2 == 0 else OTHER[folds[part]]


class TheOracle(unittest.TestCase):
    """The ways of reckoning used here agree with each other where all of them can be used."""

    def test_known_strips(self):
        self.assertEqual(strip(""), "")
        self.assertEqual(strip("l"), "l")
        self.assertEqual(strip("ll"), "llr")
        self.assertEqual(strip("rl"), "rll")
        self.assertEqual(strip("lll"), "llrllrr")
        self.assertEqual(strip("lrl"), "lrrlllr")

    def test_they_agree(self):
        for folds in few_letters(6):
            whole = strip(folds)
            for many in range(len(whole) + 1):
                self.assertEqual(first_creases(folds, many), whole[:many])
                self.assertEqual(last_creases(folds, many), whole[len(whole) - many :])
            for count in range(1, len(whole) + 1):
                self.assertEqual(reckoned(folds, count), whole[count - 1])


class Steps(unittest.TestCase):
    def test_one_without_folds(self):
        self.assertEqual(steps(""), 1)

    def test_twice_as_many_with_each_fold(self):
        for folds in few_letters(7):
            for fold in "lr":
                self.assertEqual(steps(folds + fold), 2 * steps(folds))

    def test_many_letters(self):
        for folds in MANY_LETTERS + ("lr" * 5000,):
            self.assertEqual(steps(folds), 2 ** len(folds))


class Crease(unittest.TestCase):
    def test_every_crease_of_few_letters(self):
        for folds in few_letters(8):
            for count, way in enumerate(strip(folds), start=1):
                self.assertEqual(crease(folds, count), way, (folds, count))

    def test_first_creases_of_many_letters(self):
        for folds in MANY_LETTERS:
            for count, way in enumerate(first_creases(folds, 600), start=1):
                self.assertEqual(crease(folds, count), way)

    def test_last_creases_of_many_letters(self):
        for folds in MANY_LETTERS:
            first = 2 ** len(folds) - 600
            for count, way in enumerate(last_creases(folds, 600), start=first):
                self.assertEqual(crease(folds, count), way)

    def test_creases_between_of_many_letters(self):
        for folds in MANY_LETTERS:
            for count in some_between(folds):
                self.assertEqual(crease(folds, count), reckoned(folds, count))

    def test_first_crease_of_each_part_goes_the_folds_way(self):
        for folds in MANY_LETTERS:
            self.assertEqual("".join(crease(folds, 2**part) for part in range(len(folds))), folds)

    def test_thousands_of_letters(self):
        folds = "lrr" * 2000
        for count in (1, 2, 2**5999, 2**6000 - 1, 2**6000 - 2**5000, 3 * 2**4000):
            self.assertEqual(crease(folds, count), reckoned(folds, count))


class Lefts(unittest.TestCase):
    def test_every_count_of_few_letters(self):
        for folds in few_letters(8):
            whole = strip(folds)
            for many in range(len(whole) + 1):
                self.assertEqual(lefts(folds, many), whole[:many].count("l"), (folds, many))

    def test_none(self):
        for folds in ("",) + MANY_LETTERS:
            self.assertEqual(lefts(folds, 0), 0)

    def test_first_counts_of_many_letters(self):
        for folds in MANY_LETTERS:
            ways = first_creases(folds, 600)
            for many in range(601):
                self.assertEqual(lefts(folds, many), ways[:many].count("l"))

    def test_all_creases_of_many_letters(self):
        for folds in MANY_LETTERS:
            # Each part but the last one has as many to the left as to the right.
            halves = (2 ** len(folds) - 2) // 2
            self.assertEqual(lefts(folds, 2 ** len(folds) - 1), halves + folds[-1:].count("l"))

    def test_last_counts_of_many_letters(self):
        for folds in MANY_LETTERS:
            last = 2 ** len(folds) - 1
            ways = last_creases(folds, 600)
            whole = lefts(folds, last)
            for many in range(601):
                self.assertEqual(lefts(folds, last - many), whole - ways[600 - many :].count("l"))

    def test_each_step_between_of_many_letters(self):
        for folds in MANY_LETTERS:
            for count in some_between(folds):
                more = lefts(folds, count) - lefts(folds, count - 1)
                self.assertEqual(more, 1 if reckoned(folds, count) == "l" else 0)

    def test_counts_between_of_many_letters_part_by_part(self):
        for folds in MANY_LETTERS:
            for many in some_between(folds):
                total = 0
                for part, fold in enumerate(folds):
                    of_part = many // 2**part - many // 2 ** (part + 1)
                    total += of_part // 2
                    total += 1 if of_part % 2 == 1 and fold == "l" else 0
                self.assertEqual(lefts(folds, many), total)


class Creases(unittest.TestCase):
    def test_every_row_of_few_letters(self):
        for folds in few_letters(5):
            whole = strip(folds)
            for first in range(1, 2 ** len(folds) + 1):
                for many in range(2 ** len(folds) - first + 1):
                    expected = whole[first - 1 : first - 1 + many]
                    self.assertEqual(creases(folds, first, many), expected, (folds, first, many))

    def test_whole_strip(self):
        for folds in few_letters(9):
            self.assertEqual(creases(folds, 1, 2 ** len(folds) - 1), strip(folds))

    def test_no_folds(self):
        self.assertEqual(creases("", 1, 0), "")

    def test_none_also_beyond_the_last_crease(self):
        for folds in MANY_LETTERS + ("l", "r", "lr"):
            for first in (1, 2, 2 ** len(folds) - 1, 2 ** len(folds)):
                self.assertEqual(creases(folds, first, 0), "")

    def test_first_row_of_many_letters(self):
        for folds in MANY_LETTERS:
            self.assertEqual(creases(folds, 1, 3000), first_creases(folds, 3000))

    def test_last_row_of_many_letters(self):
        for folds in MANY_LETTERS:
            self.assertEqual(creases(folds, 2 ** len(folds) - 3000, 3000), last_creases(folds, 3000))

    def test_rows_between_of_many_letters(self):
        for folds in MANY_LETTERS:
            for first in some_between(folds):
                many = min(40, 2 ** len(folds) - first)
                expected = "".join(reckoned(folds, count) for count in range(first, first + many))
                self.assertEqual(creases(folds, first, many), expected)


class Exchanged(unittest.TestCase):
    def test_every_crease_of_few_letters(self):
        for folds in few_letters(8):
            other = exchanged(folds)
            self.assertEqual(len(other), len(folds))
            self.assertEqual(strip(other), "".join(OTHER[way] for way in strip(folds)))

    def test_twice_is_the_same(self):
        for folds in list(few_letters(8)) + list(MANY_LETTERS):
            self.assertEqual(exchanged(exchanged(folds)), folds)

    def test_no_folds(self):
        self.assertEqual(exchanged(""), "")

    def test_many_letters(self):
        for folds in MANY_LETTERS:
            other = exchanged(folds)
            for count in some_between(folds):
                self.assertEqual(crease(other, count), OTHER[crease(folds, count)])


class Backwards(unittest.TestCase):
    def test_every_crease_of_few_letters(self):
        for folds in few_letters(8):
            back = backwards(folds)
            self.assertEqual(len(back), len(folds))
            self.assertEqual(strip(back), "".join(OTHER[way] for way in reversed(strip(folds))))

    def test_twice_is_the_same(self):
        for folds in list(few_letters(8)) + list(MANY_LETTERS):
            self.assertEqual(backwards(backwards(folds)), folds)

    def test_no_folds(self):
        self.assertEqual(backwards(""), "")

    def test_many_letters(self):
        for folds in MANY_LETTERS:
            back = backwards(folds)
            for count in some_between(folds):
                self.assertEqual(crease(back, count), OTHER[crease(folds, 2 ** len(folds) - count)])


class Interface(unittest.TestCase):
    def test_names_and_arguments(self):
        for function, names in (
            (crease, ["folds", "count"]),
            (lefts, ["folds", "many"]),
            (creases, ["folds", "first", "many"]),
            (steps, ["folds"]),
            (exchanged, ["folds"]),
            (backwards, ["folds"]),
        ):
            with self.subTest(function=function.__name__):
                self.assertEqual(list(inspect.signature(function).parameters), names)

    def test_kinds(self):
        for folds in ("l", "lr", "lrr" * 100):
            for told in (crease(folds, 1), creases(folds, 1, 1), exchanged(folds), backwards(folds)):
                self.assertIs(type(told), str)
            for told in (lefts(folds, 0), lefts(folds, 1), steps(folds)):
                self.assertIs(type(told), int)


if __name__ == "__main__":
    unittest.main()
