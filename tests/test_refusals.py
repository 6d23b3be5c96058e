"""Points 1, 2, 4 and 6 and the interface: what is refused, as what, and what is just not refused."""

import unittest

from foldcurve.creases import backwards, crease, creases, exchanged, lefts, steps
from foldcurve.errors import BadCrease, BadFolds, BadSteps, BadTurns
from foldcurve.turns import told
from foldcurve.way import heading, place

# A number of so many digits can't be written out by Python without more ado: a refusal must not try.
HUGE = 1 << 40000


class Unshowable:
    """Neither shown, compared, measured nor walked."""

    __hash__ = None

    def refuse(self, *others):
        raise RuntimeError("not to be asked")

    __repr__ = __str__ = __eq__ = __lt__ = __gt__ = __le__ = __ge__ = refuse
    __len__ = __iter__ = __bool__ = __index__ = __int__ = __add__ = __radd__ = refuse


NO_FOLDS = (
    "x", "L", "R", "lR", "Lr", "LR", "lrx", "xlr", "lxr", " ", "l r", " l", "r ", "lr\n", "\n", "l\0", "1", "0",
    "\u0142", "\uff4c", "l\u0301", "\ud800",
    0, 1, 2, -1, HUGE, -HUGE, 1.0, float("nan"), float("inf"), 1j,
    None, True, False, ..., NotImplemented,
    [], ["l"], ["l", "r"], (), ("l",), {}, {"l": "r"}, set(), {"l"}, frozenset("lr"), range(2),
    b"", b"lr", bytearray(b"lr"), memoryview(b"lr"),
    str, len, iter("lr"), object(), Unshowable(), ValueError("lr"),
)

NO_TURNS = ("",) + NO_FOLDS

# None of these is a whole number, whatever the folds are.
NO_NUMBERS = (
    True, False, None, "", "1", "l", b"1", 0.0, 1.0, 2.5, float("nan"), float("inf"), 1j, ...,
    [], [1], (), (1,), {}, {1: 1}, set(), {1}, range(1), int, len, object(), Unshowable(),
)

SOME_FOLDS = ("", "l", "r", "lr", "rrl", "lrrl" * 100)


class Refusals(unittest.TestCase):
    def refused(self, refusal, function, *handed):
        try:
            answer = function(*handed)
        except Exception as error:
            if type(error) is not refusal:
                self.fail(f"{function.__name__}: {type(error).__name__} in the place of {refusal.__name__}")
        else:
            self.fail(f"{function.__name__}: not refused, but {type(answer).__name__}")


class NoFolds(Refusals):
    def test_folds_alone(self):
        for row, folds in enumerate(NO_FOLDS):
            with self.subTest(row=row):
                for function in (steps, exchanged, backwards):
                    self.refused(BadFolds, function, folds)

    def test_folds_with_numbers_within_bounds(self):
        for row, folds in enumerate(NO_FOLDS):
            with self.subTest(row=row):
                self.refused(BadFolds, crease, folds, 1)
                self.refused(BadFolds, lefts, folds, 0)
                self.refused(BadFolds, creases, folds, 1, 0)
                for many in (0, 1):
                    self.refused(BadFolds, place, folds, many)
                    self.refused(BadFolds, heading, folds, many)

    def test_one_wrong_letter_among_many(self):
        for wrong in (0, 1, 250, 498, 499):
            letters = ["l"] * 500
            letters[wrong] = "L"
            for function in (steps, exchanged, backwards):
                self.refused(BadFolds, function, "".join(letters))
            self.refused(BadFolds, crease, "".join(letters), 1)
            self.refused(BadFolds, lefts, "".join(letters), 1)
            self.refused(BadFolds, creases, "".join(letters), 1, 1)
            self.refused(BadFolds, place, "".join(letters), 1)
            self.refused(BadFolds, heading, "".join(letters), 1)
            self.refused(BadTurns, told, "".join(letters), 1)

    def test_both_wrong(self):
        for row, folds in enumerate(NO_FOLDS):
            with self.subTest(row=row):
                for number in NO_NUMBERS + (0, -1, HUGE, -HUGE):
                    self.refused(BadFolds, crease, folds, number)
                    self.refused(BadFolds, creases, folds, number, 0)
                    self.refused(BadFolds, creases, folds, number, number)
                for number in NO_NUMBERS + (-1, HUGE, -HUGE):
                    self.refused(BadFolds, lefts, folds, number)
                    self.refused(BadFolds, creases, folds, 1, number)
                    self.refused(BadFolds, place, folds, number)
                    self.refused(BadFolds, heading, folds, number)


class NoCrease(Refusals):
    def test_no_numbers(self):
        for row, number in enumerate(NO_NUMBERS):
            for folds in SOME_FOLDS:
                with self.subTest(row=row, folds=folds):
                    self.refused(BadCrease, crease, folds, number)
                    self.refused(BadCrease, lefts, folds, number)
                    self.refused(BadCrease, creases, folds, number, 0)
                    self.refused(BadCrease, creases, folds, 1, number)
                    self.refused(BadCrease, creases, folds, number, number)

    def test_crease_out_of_bounds(self):
        for folds in SOME_FOLDS:
            whole = 2 ** len(folds)
            with self.subTest(folds=folds):
                for count in (0, -1, -whole, 1 - whole, -HUGE, whole, whole + 1, 2 * whole, HUGE):
                    self.refused(BadCrease, crease, folds, count)

    def test_lefts_out_of_bounds(self):
        for folds in SOME_FOLDS:
            whole = 2 ** len(folds)
            with self.subTest(folds=folds):
                for many in (-1, -whole, -HUGE, whole, whole + 1, 2 * whole, HUGE):
                    self.refused(BadCrease, lefts, folds, many)

    def test_creases_out_of_bounds(self):
        for folds in SOME_FOLDS:
            whole = 2 ** len(folds)
            with self.subTest(folds=folds):
                for first, many in (
                    (0, 0), (0, 1), (-1, 0), (-1, 2), (-HUGE, HUGE), (-HUGE, 0),
                    (1, -1), (2, -1), (1, -HUGE), (HUGE, -HUGE), (whole + 1, -1),
                    (1, whole), (2, whole - 1), (whole, 1), (whole + 1, 0), (whole - 1, 2),
                    (HUGE, 0), (1, HUGE), (HUGE, HUGE),
                ):
                    self.refused(BadCrease, creases, folds, first, many)

    def test_creases_with_each_pair_of_small_numbers(self):
        for folds in ("", "l", "rl", "lrl"):
            whole = 2 ** len(folds)
            for first in range(-3, whole + 4):
                for many in range(-3, whole + 4):
                    if first < 1 or many < 0 or first + many > whole:
                        self.refused(BadCrease, creases, folds, first, many)
                    else:
                        self.assertEqual(len(creases(folds, first, many)), many)


class NoSteps(Refusals):
    def test_no_numbers(self):
        for row, number in enumerate(NO_NUMBERS):
            for folds in SOME_FOLDS:
                with self.subTest(row=row, folds=folds):
                    self.refused(BadSteps, place, folds, number)
                    self.refused(BadSteps, heading, folds, number)

    def test_out_of_bounds(self):
        for folds in SOME_FOLDS:
            whole = 2 ** len(folds)
            with self.subTest(folds=folds):
                for many in (-1, -whole, -HUGE, whole + 1, whole + 2, 2 * whole + 1, HUGE):
                    self.refused(BadSteps, place, folds, many)
                    self.refused(BadSteps, heading, folds, many)


class NoTurns(Refusals):
    def test_no_turns(self):
        for row, turns in enumerate(NO_TURNS):
            with self.subTest(row=row):
                for first in (1, 2, HUGE):
                    self.refused(BadTurns, told, turns, first)

    def test_no_numbers(self):
        for row, number in enumerate(NO_NUMBERS):
            for turns in ("l", "r", "lr", "lll", "lrrl" * 100):
                with self.subTest(row=row, turns=turns):
                    self.refused(BadCrease, told, turns, number)

    def test_out_of_bounds(self):
        for turns in ("l", "r", "lr", "lll", "lrrl" * 100):
            for first in (0, -1, -2, -len(turns), -HUGE):
                self.refused(BadCrease, told, turns, first)

    def test_both_wrong(self):
        for row, turns in enumerate(NO_TURNS):
            with self.subTest(row=row):
                for number in NO_NUMBERS + (0, -1, -HUGE):
                    self.refused(BadTurns, told, turns, number)


class JustWithinBounds(unittest.TestCase):
    def test_crease(self):
        for folds in SOME_FOLDS[1:]:
            for count in (1, 2 ** len(folds) - 1):
                self.assertIn(crease(folds, count), ("l", "r"))

    def test_lefts(self):
        for folds in SOME_FOLDS:
            self.assertEqual(lefts(folds, 0), 0)
            self.assertGreaterEqual(lefts(folds, 2 ** len(folds) - 1), 0)

    def test_creases(self):
        for folds in SOME_FOLDS:
            whole = 2 ** len(folds)
            for many in range(min(whole, 50)):
                self.assertEqual(len(creases(folds, whole - many, many)), many)

    def test_way(self):
        for folds in SOME_FOLDS:
            for many in (0, 1, 2 ** len(folds) - 1, 2 ** len(folds)):
                self.assertEqual(len(place(folds, many)), 2)
                self.assertIn(heading(folds, many), (0, 1, 2, 3))

    def test_told(self):
        for first in (1, 2, HUGE):
            for turns in ("l", "r", "lr"):
                self.assertIs(told(turns, first).shows(turns, first), True)

    def test_no_folds_at_all(self):
        self.assertEqual((steps(""), lefts("", 0), creases("", 1, 0)), (1, 0, ""))
        self.assertEqual((exchanged(""), backwards("")), ("", ""))


if __name__ == "__main__":
    unittest.main()
