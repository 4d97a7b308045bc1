"""Point [6]: EVENTS, values and uses, MOMENTS and what is known at them."""

import unittest

from crossnest.errors import NoEvent, NoName, NoPath
from crossnest.runs import (
    events, gone_to, left_behind, makes_of, moments, open_calls, origin_of, reads_of, row_for,
    step_of, uses_of, value_of,
)
from crossnest.programs import pairs_of
from crossnest.trees import paths, procedure_of, pumped
from tests.plain import PlainRun, plain_trees
from tests.samples import BOTH, CHAIN, DEEP, LENT, ONCE, TWICE, chain_of
from tests.test_trees import clean_programs

# The start goes to its callee in its second visit alone; the callee has a second visit to which
# nobody goes, and in it goes to one more.
SLOW = (
    (((), ()), (("a",), ("b",)), (
        ((1,), (
            (("make", "a", ()), ("make", (0, "d"), ("a",))),
            (("go", 0), ("hand", "b", "a"), ("make", (0, "e"), ())),
        )),
    )),
    ((("d",), ("e",)), (("u",), ()), (
        ((2,), ((("hand", "u", "d"),), (("go", 0), ("make", "z", ("e",))))),
    )),
    (((),), (("w",),), (((), ((("make", "w", ()),),)),)),
)
SLOW_TREE = (0, ((0, ((0, ()),)),))


class Events(unittest.TestCase):
    def test_askings_and_visits(self):
        self.assertEqual(events(SLOW, SLOW_TREE), [
            ((), 0, 0), ((), 0, 1), ((), 0, 2), ((0,), 0, 0), ((), 1, 1), ((), 1, 2), ((), 1, 3),
        ])
        self.assertEqual(step_of(SLOW, SLOW_TREE, 2), ("ask", ("a",)))
        self.assertEqual(step_of(SLOW, SLOW_TREE, 6), ("ask", ("b",)))
        self.assertEqual([reads_of(SLOW, SLOW_TREE, event) for event in range(7)], [(), (0,), (0,), (), (), (), (0,)])
        self.assertEqual(uses_of(SLOW, SLOW_TREE, 0), (1, 2, 6))

    def test_visits_that_are_never_gone_to(self):
        self.assertEqual([gone_to(SLOW, SLOW_TREE, path) for path in ((), (0,), (0, 0))], [2, 1, 0])
        self.assertEqual(open_calls(SLOW, SLOW_TREE, 7), (((0, 0), 2, 0),))
        self.assertEqual(open_calls(SLOW, SLOW_TREE, 3), (((0,), 1, 1),))
        # What the caller sets for a visit to which nobody goes stands there all the same.
        self.assertEqual(value_of(SLOW, SLOW_TREE, (0,), "e", 6), 5)
        self.assertEqual(origin_of(SLOW, SLOW_TREE, 5), (1, "e"))
        self.assertIsNone(value_of(SLOW, SLOW_TREE, (0,), "z", 7))
        self.assertIsNone(value_of(SLOW, SLOW_TREE, (0,), (0, "w"), 7))
        self.assertIsNone(value_of(SLOW, SLOW_TREE, (0, 0), "w", 7))

    def test_a_start_that_calls_itself_is_asked_once(self):
        program = ((((),), (("r",),), (
            ((0,), ((("go", 0), ("make", "r", ((0, "r"),))),)), ((), ((("make", "r", ()),),)),
        )),)
        tree = (0, ((1, ()),))
        self.assertEqual(events(program, tree), [((0,), 0, 0), ((), 0, 1), ((), 0, 2)])
        self.assertEqual((uses_of(program, tree, 0), uses_of(program, tree, 1)), ((1,), (2,)))

    def test_an_empty_start(self):
        program = ((((),), ((),), (((), ((),)),)),)
        self.assertEqual(events(program, (0, ())), [((), 0, 0)])
        self.assertEqual(step_of(program, (0, ()), 0), ("ask", ()))
        self.assertEqual(moments(program, (0, ())), [((),), ((),)])


class Values(unittest.TestCase):
    def test_a_word_of_the_caller_and_the_name_of_the_callee_are_one(self):
        for number in range(7):
            self.assertEqual(
                value_of(DEEP, CHAIN, (0,), (0, "d"), number), value_of(DEEP, CHAIN, (0, 0), "d", number))
        self.assertEqual([value_of(DEEP, CHAIN, (0, 0), "d", number) for number in (0, 1, 2)], [None, None, 1])

    def test_hands(self):
        tree = (0, ((0, ()),))
        self.assertEqual([value_of(LENT, tree, (), (0, "y"), number) for number in range(5)], [None, None, 0, 0, 0])
        self.assertEqual(reads_of(LENT, tree, 1), ())
        self.assertEqual(uses_of(LENT, tree, 0), (2,))
        self.assertEqual(origin_of(LENT, tree, 0), (1, "x"))

    def test_no_name(self):
        for word in ("x", "d", (0, "r"), (1, "d"), (-1, "d"), (2, "u")):
            with self.assertRaises(NoName) as caught:
                value_of(DEEP, CHAIN, (), list(word) if isinstance(word, tuple) else word, 99)
            self.assertEqual(caught.exception.name, word)
        rules = (((), ((("make", "x", ()), ("make", "r", ("x",))),)), ((), ((("make", "r", ()),),)))
        program = ((((),), (("r",),), rules),)
        self.assertEqual(value_of(program, (0, ()), (), "x", 1), 0)
        with self.assertRaises(NoName):
            value_of(program, (1, ()), (), "x", 1)

    def test_errors_in_the_order_of_the_arguments(self):
        with self.assertRaises(NoPath) as caught:
            value_of(DEEP, CHAIN, [1], "nothing", 99)
        self.assertEqual(caught.exception.path, (1,))
        for number in (-1, 7, 10 ** 6):
            with self.assertRaises(NoEvent) as caught:
                value_of(DEEP, CHAIN, (), "r", number)
            self.assertEqual(caught.exception.number, number)
        self.assertEqual(value_of(DEEP, CHAIN, (), "r", 6), 4)
        for path in ((1,), (-1,), (0, 0, 0)):
            with self.assertRaises(NoPath):
                gone_to(DEEP, CHAIN, path)

    def test_no_event(self):
        for number in (-1, 6, 7):
            for function in (step_of, reads_of, uses_of, origin_of):
                with self.assertRaises(NoEvent) as caught:
                    function(DEEP, CHAIN, number)
                self.assertEqual(caught.exception.number, number)
        for number in (-1, 7):
            for function in (left_behind, open_calls):
                with self.assertRaises(NoEvent) as caught:
                    function(DEEP, CHAIN, number)
                self.assertEqual(caught.exception.number, number)

    def test_what_makes_nothing_is_no_value(self):
        for program, tree, number in ((DEEP, CHAIN, 5), (LENT, (0, ((0, ()),)), 1)):
            for function in (uses_of, origin_of):
                with self.assertRaises(NoEvent) as caught:
                    function(program, tree, number)
                self.assertEqual(caught.exception.number, number)
            self.assertIsInstance(reads_of(program, tree, number), tuple)

    def test_rows(self):
        self.assertEqual(row_for(ONCE, (0, ()), ((0, "r"), (0, "x"))), (
            ("make", 0, 0), ("use", 0, 1), ("make", 1, 1), ("use", 1, 2)))
        self.assertEqual(row_for(ONCE, (0, ()), ()), ())
        self.assertEqual(makes_of(TWICE, BOTH, ((1, "a"), (1, "u"))), (0, 1, 2, 3))


class Moments(unittest.TestCase):
    def test_first_and_last(self):
        self.assertEqual(moments(DEEP, CHAIN), [((),)] * 2 + [((), (0,))] + [((), (0,), (0, 0))] * 4)
        self.assertEqual(left_behind(DEEP, CHAIN, 0), (((), 0, 0), ((), 0, 2), ((), 0, 3)))
        self.assertEqual(open_calls(DEEP, CHAIN, 0), (((0,), 1, 1),))
        self.assertEqual((left_behind(DEEP, CHAIN, 6), open_calls(DEEP, CHAIN, 6)), ((), ()))

    def test_a_callee_without_events_is_known_behind_the_next_one(self):
        row = (("make", "x", ()), ("go", 0), ("make", "r", ("x",)))
        program = ((((),), (("r",),), (((1,), (row,)),)), (((),), ((),), (((), ((),)),)))
        tree = (0, ((0, ()),))
        self.assertEqual(moments(program, tree), [((),), ((),), ((), (0,)), ((), (0,))])
        self.assertEqual(open_calls(program, tree, 1), (((0,), 1, 1),))

    def test_against_a_plain_walk(self):
        for seed, program in clean_programs(range(120), procedures=4, visits=3, callees=3):
            for tree in plain_trees(program, 0, 5)[:4]:
                run, found = PlainRun(program, tree), events(program, tree)
                self.assertEqual(found, [event["spot"] for event in run.events], seed)
                for number, event in enumerate(run.events):
                    self.assertEqual(reads_of(program, tree, number), tuple(event["uses"]))
                    self.assertEqual(step_of(program, tree, number), event["step"])
                    if event["pair"] is not None:
                        self.assertEqual(uses_of(program, tree, number), tuple(run.users(number)))
                        self.assertEqual(origin_of(program, tree, number), event["pair"])
                lot = pairs_of(program)[::2]
                made = tuple(at for at, event in enumerate(run.events) if event["pair"] in lot)
                self.assertEqual(makes_of(program, tree, lot), made)
                row = row_for(program, tree, lot)
                self.assertEqual(tuple(at for word, at, _ in row if word == "make"), made)
                self.assertEqual(row, tuple(sorted(row, key=lambda part: (part[2], part[0] == "make", part[1]))))
                self.look_at_moments(program, tree, run, found)

    def look_at_moments(self, program, tree, run, found):
        known = moments(program, tree)
        self.assertEqual(len(known), len(found) + 1)
        for number, told in enumerate(known):
            self.assertEqual(told, tuple(sorted(run.known(number))))
            left = tuple(event for event in found[number:] if event[0] in told)
            self.assertEqual(left_behind(program, tree, number), left)
            self.assertEqual(open_calls(program, tree, number), tuple(
                (path, procedure_of(program, tree, path), run.gone.get(path, 0))
                for path in paths(tree) if path not in told and path[:-1] in told
            ))

    def test_trees_that_are_returned_may_be_large(self):
        tree = pumped(DEEP, chain_of(30), (0,), (0,) * 30, 40)
        self.assertEqual(len(events(DEEP, tree)), 2 * 1200 + 4)
        self.assertEqual(open_calls(DEEP, tree, 600), (((0,) * 600, 1, 1),))
        self.assertEqual(value_of(DEEP, tree, (0,) * 1000, "d", 2000), 999)


if __name__ == "__main__":
    unittest.main()
