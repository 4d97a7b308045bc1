"""Point [10]: which RUNS take a PATTERN, and with values of which pairs."""

import unittest

from crossnest.entries import entries, matched
from crossnest.errors import TooMany
from crossnest.patterns import least_run, pairs_shown, pattern_of, shown_in, shows, takes
from crossnest.profiles import is_quick, quick_pairs
from crossnest.programs import pairs_of
from crossnest.trees import nodes
from tests.plain import PlainRun, plain_numbers
from tests.samples import A, AGAIN, BOTH, CHAIN, D, DEEP, LENT, ONCE, TWICE, wide_program
from tests.small import error_told, small_programs

CELL, STACK, QUEUE = (pattern_of(home, 1) for home in ("cell", "stack", "queue"))
# Others than those of homes.
STRANGE = (
    (("make", 0),),
    (("make", 0), ("use", 0), ("use", 0)),
    (("make", None), ("make", 0), ("use", 0)),
    (("make", 0), ("make", 1), ("use", 1), ("use", 0), ("use", 1)),
    (("make", 0), ("make", None), ("make", 1), ("use", 0)),
    (("make", 0), ("make", 1), ("use", 1)),
)
PATTERNS = (CELL, STACK, QUEUE, pattern_of("round", 2), pattern_of("round", 3)) + STRANGE


def pairs_at(run, pattern, numbers):
    """The pairs of which the values of the guesses are."""
    return tuple(
        run.events[at]["pair"] for at, (deed, guess) in zip(numbers, pattern)
        if deed == "make" and guess is not None
    )


class Plain(unittest.TestCase):
    def test_pattern_of(self):
        self.assertEqual(CELL, (("make", 0), ("make", 1), ("use", 0)))
        self.assertEqual(STACK, (("make", 0), ("make", 1), ("use", 0), ("use", 1)))
        self.assertEqual(QUEUE, (("make", 0), ("make", 1), ("use", 1), ("use", 0)))
        for many in (1, 6, 7):
            told = (("make", 0),) + (("make", None),) * many + (("use", 0),)
            self.assertEqual(pattern_of("round", many), told)
        self.assertEqual(pattern_of("cell", 5), CELL)
        for home in ("", "rounds", "Cell", "region", "order", "homes", "heap", "make"):
            self.assertEqual(error_told(pattern_of, home, 1), ("CanNot",))

    def test_shows(self):
        self.assertTrue(shows(TWICE, A, BOTH, STACK, (0, 1, 2, 3)))
        for numbers in (
                (), (0,), (0, 1, 2), (0, 1, 2, 3, 4), (1, 0, 2, 3), (0, 1, 3, 2), (0, 1, 2, 2), (0, 0, 2, 3),
                (0, 1, 2, 7), (0, 1, 2, -1), (-1, 1, 2, 3), (0, 1, 2, 10 ** 6), (0, 1, 2, 4), (0, 2, 2, 3),
        ):
            self.assertFalse(shows(TWICE, A, BOTH, STACK, numbers), numbers)
        self.assertFalse(shows(TWICE, (), BOTH, STACK, (0, 1, 2, 3)))

    def test_values_of_guesses_are_unlike(self):
        # One make can not be that of both guesses, nor a make between.
        self.assertFalse(takes(ONCE, ((0, "x"),), (("make", 0), ("make", 1))))
        self.assertFalse(takes(ONCE, ((0, "x"),), (("make", 0), ("make", None))))
        self.assertTrue(takes(ONCE, ((0, "x"),), (("make", 0), ("use", 0))))
        self.assertEqual(least_run(ONCE, ((0, "r"), (0, "x")), (("make", None), ("make", 0))), ((0, ()), (0, 1)))

    def test_one_event_matches_one_member(self):
        # r is made out of x: this EVENT is the use of x or the make of r, not both.
        lot = ((0, "r"), (0, "x"))
        self.assertFalse(takes(ONCE, lot, CELL))
        self.assertTrue(takes(ONCE, lot, (("make", 0), ("make", 1), ("use", 1))))
        # A value used twice is used at two EVENTS.
        self.assertTrue(takes(AGAIN, ((0, "x"),), (("make", 0), ("use", 0), ("use", 0))))
        self.assertFalse(takes(AGAIN, ((0, "x"),), (("make", 0), ("use", 0), ("use", 0), ("use", 0))))

    def test_a_value_that_comes_back_under_another_name(self):
        lot = ((0, "r"), (1, "x"))
        self.assertEqual(least_run(LENT, ((1, "x"),), (("make", 0), ("use", 0))), ((0, ((0, ()),)), (0, 2)))
        self.assertIsNone(least_run(LENT, ((1, "x"),), CELL))
        self.assertEqual(pairs_shown(LENT, lot, (("make", 0), ("use", 0), ("make", 1))), ())
        self.assertEqual(pairs_shown(LENT, lot, (("make", 0), ("make", 1))), (((1, "x"), (0, "r")),))

    def test_no_value_of_the_lot(self):
        for program in (ONCE, DEEP, TWICE):
            for pattern in PATTERNS:
                self.assertFalse(takes(program, (), pattern))
                self.assertIsNone(least_run(program, (), pattern))
                self.assertEqual(pairs_shown(program, (), pattern), ())
        self.assertIsNone(shown_in(DEEP, A, (0, ((0, ()),)), STACK))

    def test_too_many(self):
        for ins, outs in (("abcde", ""), ("", "abcde"), ("abcde", "f")):
            program = wide_program(ins, outs)
            for call in (takes, least_run, pairs_shown):
                with self.assertRaises(TooMany):
                    call(program, (), CELL)
            shown_in(program, (), (0, ((0, ()),)), CELL)
        self.assertFalse(takes(wide_program("abcd", "efgh"), (), CELL))


class ForAllRuns(unittest.TestCase):
    def test_against_small_runs(self):
        for program, lot, rows, most in small_programs(range(9)):
            for pattern in PATTERNS:
                first, pairs = None, set()
                for tree, run in rows:
                    found = None
                    for numbers in plain_numbers(run, lot, pattern):
                        found = found or numbers
                        pairs.add(pairs_at(run, pattern, numbers))
                    self.assertEqual(shown_in(program, lot, tree, pattern), found)
                    if found is not None:
                        first = first or (tree, found)
                        self.assertTrue(shows(program, lot, tree, pattern, found))
                told = least_run(program, lot, pattern)
                self.assertEqual(takes(program, lot, pattern), told is not None)
                if told is not None and nodes(told[0]) > most:
                    self.assertIsNone(first)
                    run = PlainRun(program, told[0])
                    self.assertEqual(next(plain_numbers(run, lot, pattern)), told[1])
                else:
                    self.assertEqual(told, first)
                shown = pairs_shown(program, lot, pattern)
                self.assertEqual(bool(shown), told is not None)
                self.assertLessEqual(pairs, set(shown))
                self.assertEqual(sorted(set(shown)), list(shown))

    def test_pairs_by_lots_of_two(self):
        # Whatever is shown, by small RUNS or great ones, shows in the LOT of its pairs.
        for program, lot, _, _ in small_programs(range(8)):
            for pattern in (CELL, STACK, QUEUE):
                shown = pairs_shown(program, lot, pattern)
                for one in lot:
                    for other in lot:
                        two = tuple(sorted({one, other}))
                        told = any(set(pairs) <= set(two) for pairs in shown)
                        self.assertEqual(takes(program, two, pattern), told)

    def test_entries_tell_the_same(self):
        for program, lot, _, _ in small_programs(range(20, 26), names=2):
            start = (0, len(program[0][0]))
            for pattern in (CELL, STACK, QUEUE, pattern_of("round", 2)) + STRANGE[1:4]:
                found = [entry for seat, entry in entries(program, lot, pattern) if seat == start]
                told = any(-1 not in entry[0] and matched(program, pattern, entry) == len(pattern) for entry in found)
                self.assertEqual(takes(program, lot, pattern), told)

    def test_quick_pairs_tell_the_same(self):
        checked = 0
        for program, _, _, _ in small_programs(range(12)):
            lot = tuple(pair for pair in pairs_of(program) if is_quick(program, (pair,)))[:5]
            for home in ("cell", "stack", "queue"):
                self.assertEqual(pairs_shown(program, lot, pattern_of(home, 1)), quick_pairs(program, lot, home))
                checked += len(lot)
        self.assertGreater(checked, 100)

    def test_what_spoils_a_greater_round_spoils_the_lesser(self):
        for program, lot, _, _ in small_programs(range(10)):
            told = [takes(program, lot, pattern_of("round", many)) for many in range(1, 6)]
            self.assertEqual(told, sorted(told, reverse=True))
            self.assertEqual(told[0], takes(program, lot, CELL))

    def test_deep_runs(self):
        told = least_run(DEEP, D, pattern_of("round", 6))
        self.assertEqual((nodes(told[0]), told[1]), (8, (0, 1, 2, 3, 4, 5, 6, 13)))
        self.assertEqual(least_run(DEEP, D, QUEUE), (CHAIN, (0, 1, 2, 3)))


if __name__ == "__main__":
    unittest.main()
