"""Point 6: what is told of turns, against a search of folds that is made here."""

import inspect
import itertools
import random
import unittest

from foldcurve.answers import Answer, Folds, Unlike
from foldcurve.turns import told

OTHER = {"l": "r", "r": "l"}

# Of no sort of pattern, so that a letter taken from the wrong place shows.
MANY_LETTERS = (
    "lrrlrlllrrlrrrlllrlrlrrllrrrrlrllllrrlrlrr" * 3 + "rl" * 41 + "l" * 57 + "r" * 61 + "lrrl" * 13,
    "l" * 300,
    "r" * 301,
    "lr" * 200,
    "r" * 699 + "l",
)

HUGE_COUNTS = (
    2**64 - 1, 2**64, 2**64 + 1, 2**300 - 3, 2**300, 2**300 + 7, 3 * 2**250 - 5, 5 * 2**400, 10**200, 7**333,
    2**20000 - 4, 2**20000,
)


def few_letters(least, most):
    for length in range(least, most + 1):
        for letters in itertools.product("lr", repeat=length):
            yield "".join(letters)


def part_of(count):
    return len(bin(count)) - len(bin(count).rstrip("0"))


def by_fold(fold, count):
    """The first crease of a part goes the fold's way, and each further one the other way than the one ahead."""
    ahead = (count // 2 ** part_of(count) - 1) // 2
    return fold if ahead % 2 == 0 else OTHER[fold]


def row(folds, first, many):
    return "".join(by_fold(folds[part_of(count)], count) for count in range(first, first + many))


def strip(folds):
    """All creases, in their turn, from the first one to the last: each part's ways alternate from its fold's."""
    ahead = {}
    ways = []
    for count in range(1, 2 ** len(folds)):
        part = part_of(count)
        ahead[part] = OTHER[ahead[part]] if part in ahead else folds[part]
        ways.append(ahead[part])
    return "".join(ways)


def have_folds(turns, first):
    """A search of all folds, as far as they make one of these creases."""
    counts = range(first, first + len(turns))
    parts = sorted({part_of(count) for count in counts})
    for letters in itertools.product("lr", repeat=len(parts)):
        folds = dict(zip(parts, letters))
        if all(by_fold(folds[part_of(count)], count) == turn for count, turn in zip(counts, turns)):
            return True
    return False


def are_unlike(turns, first, one, other):
    """By no letter of the fold that makes both are both turns as they stand."""
    part = part_of(first + one)
    if part != part_of(first + other):
        return False
    return not any(
        by_fold(fold, first + one) == turns[one] and by_fold(fold, first + other) == turns[other] for fold in "lr"
    )


def one_exchanged(turns, place):
    return turns[:place] + OTHER[turns[place]] + turns[place + 1 :]


class Told(unittest.TestCase):
    def folds_told(self, turns, first):
        answer = told(turns, first)
        self.assertIs(type(answer), Folds)
        self.assertIs(type(answer.folds), str)
        self.assertLessEqual(set(answer.folds), {"l", "r"})
        self.assertGreaterEqual(2 ** len(answer.folds) - 1, first + len(turns) - 1)
        self.assertEqual(row(answer.folds, first, len(turns)), turns)
        self.assertIs(answer.shows(turns, first), True)

    def unlike_told(self, turns, first):
        answer = told(turns, first)
        self.assertIs(type(answer), Unlike)
        self.assertEqual((type(answer.one), type(answer.other)), (int, int))
        self.assertTrue(0 <= answer.one < answer.other < len(turns))
        self.assertTrue(are_unlike(turns, first, answer.one, answer.other))
        self.assertIs(answer.shows(turns, first), True)

    def rightly_told(self, turns, first):
        if have_folds(turns, first):
            self.folds_told(turns, first)
        else:
            self.unlike_told(turns, first)


class TheOracle(Told):
    def test_the_ways_of_reckoning_agree(self):
        for folds in few_letters(0, 7):
            self.assertEqual(row(folds, 1, 2 ** len(folds) - 1), strip(folds))

    def test_the_search_finds_what_a_search_of_whole_folds_finds(self):
        for turns in few_letters(1, 5):
            for first in range(1, 6):
                found = any(strip(folds)[first - 1 :].startswith(turns) for folds in few_letters(4, 4))
                self.assertEqual(have_folds(turns, first), found, (turns, first))


class Rows(Told):
    def test_all_rows_of_few_letters(self):
        for folds in few_letters(1, 5):
            whole = strip(folds)
            for first in range(1, len(whole) + 1):
                for behind in range(first, len(whole) + 1):
                    self.folds_told(whole[first - 1 : behind], first)

    def test_rows_of_many_letters(self):
        for folds in MANY_LETTERS:
            last = 2 ** len(folds) - 1
            for many in (1, 2, 3, 50, 777):
                for first in (1, 2, 2**100 - 20, 2**250, last // 3, last // 7, last - many + 1):
                    self.folds_told(row(folds, first, many), first)

    def test_a_long_row(self):
        self.folds_told(row(MANY_LETTERS[0], 1, 20000), 1)
        self.folds_told(row(MANY_LETTERS[0], 2**200 - 9999, 20000), 2**200 - 9999)

    def test_one_turn_is_always_a_crease(self):
        for first in tuple(range(1, 200)) + HUGE_COUNTS:
            for turn in "lr":
                self.folds_told(turn, first)

    def test_the_last_crease_of_folds(self):
        for length in (1, 2, 3, 64, 300):
            for turn in "lr":
                self.folds_told(turn, 2**length - 1)
                self.folds_told(turn, 2**length)


class ChangedRows(Told):
    def changed(self, turns):
        yield turns[::-1]
        yield turns + turns
        yield "".join(OTHER[turn] for turn in turns)
        for place in sorted({0, 1, len(turns) // 3, len(turns) // 2, len(turns) - 2, len(turns) - 1}):
            if 0 <= place < len(turns):
                yield one_exchanged(turns, place)

    def test_few_letters(self):
        for folds in few_letters(1, 4):
            whole = strip(folds)
            for first in range(1, len(whole) + 1):
                for behind in range(first, len(whole) + 1):
                    for turns in self.changed(whole[first - 1 : behind]):
                        self.rightly_told(turns, first)

    def test_many_letters(self):
        for folds in MANY_LETTERS:
            last = 2 ** len(folds) - 1
            for many in (1, 2, 3, 8, 40):
                for first in (1, 2, 2**100 - 20, last // 3, last - many + 1):
                    for turns in self.changed(row(folds, first, many)):
                        self.rightly_told(turns, first)

    def test_one_letter_exchanged_among_very_many(self):
        turns = row(MANY_LETTERS[0], 2**150 - 3000, 6001)
        for place in (0, 1, 2999, 3001, 5999, 6000):
            self.unlike_told(one_exchanged(turns, place), 2**150 - 3000)
        # The crease in the middle is the only one of its part: whichever way it goes, there are folds.
        self.folds_told(one_exchanged(turns, 3000), 2**150 - 3000)


class AllTexts(Told):
    def test_small_counts(self):
        for turns in few_letters(1, 7):
            for first in range(1, 18):
                self.rightly_told(turns, first)

    def test_huge_counts(self):
        for turns in few_letters(1, 5):
            for first in HUGE_COUNTS:
                self.rightly_told(turns, first)

    def test_drawn_letters(self):
        drawn = random.Random(6)
        for first in tuple(range(1, 40)) + HUGE_COUNTS:
            for many in (3, 4, 5, 6, 9, 30):
                self.rightly_told("".join(drawn.choice("lr") for place in range(many)), first)

    def test_drawn_folds_at_drawn_counts(self):
        drawn = random.Random(7)
        for length in (5, 9, 30, 100, 500):
            for draw in range(40):
                folds = "".join(drawn.choice("lr") for part in range(length))
                first = drawn.randrange(1, 2**length)
                many = min(drawn.randrange(1, 60), 2**length - first)
                turns = row(folds, first, many)
                self.folds_told(turns, first)
                self.rightly_told(one_exchanged(turns, drawn.randrange(many)), first)

    def test_never_both(self):
        for turns in few_letters(1, 6):
            for first in (1, 2, 3, 4, 5, 8, 2**300 - 2):
                pairs = itertools.combinations(range(len(turns)), 2)
                unlike = [Unlike(one, other).shows(turns, first) for one, other in pairs]
                self.assertEqual(any(unlike), type(told(turns, first)) is Unlike, (turns, first))


class Interface(unittest.TestCase):
    def test_names_and_arguments(self):
        self.assertEqual(list(inspect.signature(told).parameters), ["turns", "first"])
        self.assertEqual(told.__module__, "foldcurve.turns")

    def test_each_answer_is_new(self):
        for turns, first in (("lll", 1), ("lr", 1), ("lrllr", 2**100)):
            one = told(turns, first)
            other = told(turns, first)
            self.assertIsInstance(one, Answer)
            self.assertIsNot(one, other)
            kept = dict(vars(other))
            for name in vars(one):
                setattr(one, name, None)
            self.assertEqual(vars(other), kept)
            self.assertEqual(vars(told(turns, first)), kept)


if __name__ == "__main__":
    unittest.main()
