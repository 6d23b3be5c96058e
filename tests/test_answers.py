"""Point 6: what answers show, when they are made by hand and when their fields are changed."""

import inspect
import itertools
import unittest

from foldcurve.answers import Answer, Folds, Unlike
from foldcurve.turns import told

OTHER = {"l": "r", "r": "l"}


def few_letters(least, most):
    for length in range(least, most + 1):
        for letters in itertools.product("lr", repeat=length):
            yield "".join(letters)


def part_of(count):
    return len(bin(count)) - len(bin(count).rstrip("0"))


def by_fold(fold, count):
    """The first crease of a part goes the fold's way, and each further one the other way than the one ahead."""
    ahead = (count // 2 ** part_of(count) - 1) // 2
    return fold if ahead % 2 == 0 else OTHER[fold]


def row(folds, first, many):
    return "".join(by_fold(folds[part_of(count)], count) for count in range(first, first + many))


def are_folds(folds, turns, first):
    if set(folds) - {"l", "r"} or first + len(turns) - 1 > 2 ** len(folds) - 1:
        return False
    return row(folds, first, len(turns)) == turns


def are_unlike(one, other, turns, first):
    if not 0 <= one < other < len(turns) or part_of(first + one) != part_of(first + other):
        return False
    return not any(
        by_fold(fold, first + one) == turns[one] and by_fold(fold, first + other) == turns[other] for fold in "lr"
    )


def changed(folds):
    """The folds, and what is near them: a letter exchanged, one more, one fewer, none, other small letters."""
    yield folds
    for part in range(len(folds)):
        yield folds[:part] + OTHER[folds[part]] + folds[part + 1 :]
        yield folds[:part] + "x" + folds[part + 1 :]
        yield folds[:part] + folds[part + 1 :]
    yield folds + "l"
    yield folds + "r"
    yield "l" + folds
    yield folds + "a"
    yield folds[::-1]
    yield folds + folds
    yield ""
    yield "x" * len(folds)
    yield "abc"
    yield "left"


class Classes(unittest.TestCase):
    def test_they_stand_straight_under_answer(self):
        self.assertEqual(Folds.__bases__, (Answer,))
        self.assertEqual(Unlike.__bases__, (Answer,))
        self.assertEqual({kind.__module__ for kind in (Answer, Folds, Unlike)}, {"foldcurve.answers"})

    def test_fields_and_arguments(self):
        self.assertEqual(list(inspect.signature(Folds).parameters), ["folds"])
        self.assertEqual(list(inspect.signature(Unlike).parameters), ["one", "other"])
        self.assertEqual(vars(Folds("lrr")), {"folds": "lrr"})
        self.assertEqual(vars(Unlike(3, 7)), {"one": 3, "other": 7})
        for kind in (Folds, Unlike):
            self.assertEqual(list(inspect.signature(kind.shows).parameters), ["self", "turns", "first"])


class FoldsShow(unittest.TestCase):
    def as_reckoned(self, folds, turns, first):
        self.assertIs(Folds(folds).shows(turns, first), are_folds(folds, turns, first), (folds, turns, first))

    def test_all_few_folds_of_all_few_turns(self):
        for folds in few_letters(0, 4):
            for turns in few_letters(1, 4):
                for first in range(1, 18):
                    self.as_reckoned(folds, turns, first)

    def test_changed_folds(self):
        for folds in few_letters(1, 4):
            for first in range(1, 2 ** len(folds)):
                for many in range(1, 2 ** len(folds) - first + 1):
                    for near in changed(folds):
                        self.as_reckoned(near, row(folds, first, many), first)

    def test_changed_folds_of_many_letters(self):
        folds = "lrrlrlllrrlrrrlllrlrlrrllrrrrlrllllrrlrlrr" * 4
        last = 2 ** len(folds) - 1
        for first in (1, 2**90 - 5, last // 3, last - 19):
            turns = row(folds, first, 20)
            self.assertTrue(are_folds(folds, turns, first))
            for near in changed(folds):
                self.as_reckoned(near, turns, first)

    def test_another_crease(self):
        folds = "lrrlrlllrr"
        turns = row(folds, 300, 12)
        for first in range(1, 1100):
            self.as_reckoned(folds, turns, first)
        self.assertIs(Folds(folds).shows(turns, 2**5000), False)

    def test_the_last_crease_and_one_beyond(self):
        for folds in ("l", "lr", "rrl", "lr" * 150):
            last = 2 ** len(folds) - 1
            self.assertIs(Folds(folds).shows(row(folds, last, 1), last), True)
            for beyond in ("l", "r"):
                self.assertIs(Folds(folds).shows(row(folds, last, 1) + beyond, last), False)
                self.assertIs(Folds(folds).shows(beyond, last + 1), False)

    def test_what_are_no_turns_or_no_count(self):
        for turns, first in (("", 1), ("x", 1), ("lx", 1), ("l", 0), ("l", -1), ("l", -(2**70))):
            self.assertIs(Folds("lll").shows(turns, first), False)

    def test_the_field_as_it_stands_then(self):
        answer = Folds("ll")
        self.assertIs(answer.shows("llr", 1), True)
        for folds, shown in (("rl", False), ("lll", True), ("l", False), ("", False), ("lx", False), ("ll", True)):
            answer.folds = folds
            self.assertIs(answer.shows("llr", 1), shown)


class UnlikeShow(unittest.TestCase):
    def as_reckoned(self, one, other, turns, first):
        shown = are_unlike(one, other, turns, first)
        self.assertIs(Unlike(one, other).shows(turns, first), shown, (one, other, turns, first))

    def test_all_few_places_of_all_few_turns(self):
        for turns in few_letters(1, 6):
            for first in (1, 2, 3, 4, 6, 7, 8, 13):
                for one in range(-2, len(turns) + 2):
                    for other in range(-2, len(turns) + 2):
                        self.as_reckoned(one, other, turns, first)

    def test_all_places_of_some_turns(self):
        for turns in ("l" * 20, "r" * 20, "lr" * 10, "lrrlrlllrrlrrrlllrlr"):
            for first in (1, 5, 16, 2**300 - 10, 2**300, 3 * 2**2000 - 7):
                for one in range(-21, 22):
                    for other in range(-21, 22):
                        self.as_reckoned(one, other, turns, first)

    def test_places_of_any_size(self):
        for far in (2**64, 2**64 + 2, 10**1000, 1 << 40000):
            for first in (1, 4, 2**300):
                for one, other in ((0, far), (far, far + 2), (-far, 2), (-far, far), (far, 2), (far, far), (2, -far)):
                    self.assertIs(Unlike(one, other).shows("lllll", first), False)

    def test_places_turned_round_and_equal(self):
        self.assertIs(Unlike(0, 2).shows("lll", 1), True)
        self.assertIs(Unlike(2, 0).shows("lll", 1), False)
        self.assertIs(Unlike(0, 0).shows("lll", 1), False)
        self.assertIs(Unlike(2, 2).shows("lll", 1), False)

    def test_places_below_zero_are_not_counted_from_the_end(self):
        self.assertIs(Unlike(-3, 2).shows("lll", 1), False)
        self.assertIs(Unlike(-3, -1).shows("lll", 1), False)
        self.assertIs(Unlike(-1, 1).shows("lll", 2), False)

    def test_truths_are_no_places(self):
        self.assertIs(Unlike(1, 3).shows("llll", 2), True)
        self.assertIs(Unlike(True, 3).shows("llll", 2), False)
        self.assertIs(Unlike(False, 2).shows("lll", 1), False)

    def test_another_crease(self):
        answer = told("llllllll", 5)
        for first in range(1, 200):
            shown = are_unlike(answer.one, answer.other, "llllllll", first)
            self.assertIs(answer.shows("llllllll", first), shown)

    def test_what_are_no_turns_or_no_count(self):
        for turns, first in (("", 1), ("lxl", 1), ("xlx", 1), ("lll", 0), ("lll", -1), ("lll", -(2**70))):
            self.assertIs(Unlike(0, 2).shows(turns, first), False)

    def test_the_fields_as_they_stand_then(self):
        answer = Unlike(0, 2)
        self.assertIs(answer.shows("lllll", 1), True)
        for one, other in itertools.product(range(-1, 6), repeat=2):
            answer.one = one
            answer.other = other
            self.assertIs(answer.shows("lllll", 1), are_unlike(one, other, "lllll", 1))


if __name__ == "__main__":
    unittest.main()
