"""Point [7]: PASSINGS, and what is alive at a MOMENT."""

import unittest

from crossnest.alive import (
    alive_at, both_alive, can_use, ends_ahead, going_on, is_going_on, last_moment, most_alive_in,
    passing_of, passings,
)
from crossnest.entries import seats
from crossnest.errors import NoEvent, NoName, NoProcedure, TooMany
from crossnest.programs import is_clean, is_program, pairs_of
from crossnest.runs import events, step_of
from crossnest.trees import least_tree, nodes, pumped
from tests.plain import PlainRun, agrees, plain_alive, plain_trees, rule_at
from tests.samples import (
    A, BOTH, CHAIN, CROWDED, D, DEEP, LENT, ONCE, ROOMY, TWICE, chain_of, plain_leaf, shuffle,
    shuffling_program,
)
from tests.test_trees import clean_programs

# x is never used; y is used once.
IDLE = ((((),), (("r",),), (
    ((), ((("make", "x", ()), ("make", "y", ()), ("make", "r", ("y",))),)),
)),)
# The callee's a of the first visit comes back as u, or its c of the second one as v; never both.
EITHER_ROW = (
    ("make", (0, "a"), ()), ("go", 0), ("hand", (0, "c"), (0, "u")), ("go", 0), ("make", "r", ((0, "v"),)),
)
EITHER = (
    (((),), (("r",),), (((1,), (EITHER_ROW,)),)),
    ((("a",), ("c",)), (("u",), ("v",)), (
        ((), ((("hand", "u", "a"),), (("make", "v", ()),))),
        ((), ((("make", "u", ()),), (("hand", "v", "c"),))),
    )),
)
OPEN_EITHER = (EITHER[0], (EITHER[1][0], EITHER[1][1], EITHER[1][2] + (
    ((), ((("hand", "u", "a"),), (("hand", "v", "c"),))),
)))
# The second visit, to which nobody goes, would use a.
UNVISITED = (
    (((),), (("r",),), (((1,), ((("make", (0, "a"), ()), ("go", 0), ("make", "r", ())),)),)),
    ((("a",), ()), ((), ()), (((), ((), (("make", "x", ("a",)),))),)),
)


def plain_passing(program, procedure, tree, visits):
    """The PASSING by a plain walk in which each IN has a value of its own, a number below 0."""
    run = PlainRun(program, (0, ()), visits=0)
    ins = sorted(name for names in program[procedure][0][:visits] for name in names)
    run.at = {((), name): -1 - at for at, name in enumerate(ins)}
    for visit in range(visits):
        run.gone[()] = visit + 1
        run.row((), procedure, tree, visit)
    outs = sorted(name for names in program[procedure][1][:visits] for name in names)
    return tuple(
        (name, any(-1 - at in event["uses"] for event in run.events),
         tuple(out for out in outs if run.at.get(((), out)) == -1 - at))
        for at, name in enumerate(ins)
    )


class Passings(unittest.TestCase):
    def test_visits(self):
        tree = (0, ())
        self.assertEqual(passing_of(EITHER, 1, tree, 1), (("a", False, ("u",)),))
        self.assertEqual(passing_of(EITHER, 1, tree, 2), (("a", False, ("u",)), ("c", False, ())))
        self.assertEqual(passings(EITHER, 1, 2), [
            (("a", False, ()), ("c", False, ("v",))), (("a", False, ("u",)), ("c", False, ())),
        ])
        self.assertEqual(passings(EITHER, 0, 1), [()])
        self.assertEqual(passings(UNVISITED, 1, 1), [(("a", False, ()),)])
        self.assertEqual(passings(UNVISITED, 1, 2), [(("a", True, ()),)])

    def test_an_in_with_two_outs_and_within(self):
        inner = ((("a", "b"),), (("u", "v"),), (
            ((), ((("hand", "u", "b"), ("hand", "v", "b"), ("make", "x", ("a",))),)),
        ))
        row = (("make", "y", ()), ("hand", (0, "a"), "y"), ("hand", (0, "b"), "y"), ("go", 0), ("make", "r", ()))
        program = ((((),), (("r",),), (((1,), (row,)),)), inner)
        self.assertEqual(passings(program, 1, 1), [(("a", True, ()), ("b", False, ("u", "v")))])

    def test_by_chance(self):
        for seed, program in clean_programs(range(100), procedures=4, visits=3, callees=3, hands=0.6):
            for procedure in range(len(program)):
                for visits in range(1, len(program[procedure][0]) + 1):
                    told = passings(program, procedure, visits)
                    self.assertEqual(told, sorted(set(told)), seed)
                    for tree in plain_trees(program, procedure, 4)[:30]:
                        found = passing_of(program, procedure, tree, visits)
                        self.assertEqual(found, plain_passing(program, procedure, tree, visits), seed)
                        self.assertIn(found, told)
                    names = [part[0] for part in told[0]]
                    for name in names:
                        uses = any(part[1] for row in told for part in row if part[0] == name)
                        self.assertIs(can_use(program, procedure, visits, (name,)), uses)
                    uses = any(part[1] for row in told for part in row)
                    self.assertIs(can_use(program, procedure, visits, tuple(names)), uses)
                    self.assertIs(can_use(program, procedure, visits, ()), False)

    def test_errors(self):
        for number in (-1, 2):
            for call in (
                    lambda: passing_of(LENT, number, (0, ()), 1), lambda: passings(LENT, number, 1),
                    lambda: can_use(LENT, number, 1, ("q",)),
            ):
                with self.assertRaises(NoProcedure):
                    call()
        with self.assertRaises(NoName) as caught:
            can_use(EITHER, 1, 1, ("a", "c", "q"))
        self.assertEqual(caught.exception.name, "c")
        self.assertFalse(can_use(EITHER, 1, 2, ("a", "c")))

    def test_too_many(self):
        self.assertTrue(is_clean(CROWDED) and is_clean(ROOMY))
        self.assertEqual(len(passings(ROOMY, 1, 1)), 256)
        tree = least_tree(CROWDED, 0)
        lot = ((1, "a"),)
        for call in (
                lambda: passings(CROWDED, 1, 1), lambda: passings(CROWDED, 0, 1),
                lambda: can_use(CROWDED, 1, 1, ("a",)), lambda: can_use(CROWDED, 0, 1, ()),
                lambda: alive_at(CROWDED, tree, 0), lambda: going_on(CROWDED, tree, 0, 0),
                lambda: last_moment(CROWDED, tree, 0), lambda: both_alive(CROWDED, tree, lot),
                lambda: ends_ahead(CROWDED, tree, lot), lambda: most_alive_in(CROWDED, tree, lot),
        ):
            with self.assertRaises(TooMany):
                call()

    def test_two_callees_wait_for_their_second_visits(self):
        echo = ((("a",), ("c",)), (("u",), ("v",)), (((), ((("hand", "u", "a"),), (("hand", "v", "c"),))),))
        rows = (
            (("make", (1, "a"), ()), ("go", 1), ("make", (0, "a"), ()), ("go", 0)),
            (("hand", (1, "c"), "q"), ("go", 1), ("hand", (0, "c"), (1, "v")), ("go", 0), ("hand", "o", (0, "v"))),
        )
        row = (
            ("make", (0, "p"), ()), ("go", 0), ("make", (0, "q"), ()), ("go", 0), ("make", "r", ((0, "o"),)),
        )
        program = (
            (((),), (("r",),), (((1,), (row,)),)), ((("p",), ("q",)), ((), ("o",)), (((2, 2), rows),)), echo,
        )
        self.assertEqual(passings(program, 1, 2), [(("p", False, ()), ("q", False, ("o",)))])
        tree = (0, ((0, ((0, ()), (0, ()))),))
        made = events(program, tree).index(((), 0, 2))
        self.assertEqual(alive_at(program, tree, made + 1), (made,))
        self.assertEqual(last_moment(program, tree, made), len(events(program, tree)) - 2)

    def test_too_many_for_visits_that_nobody_asks_for(self):
        # What CROWDED has in its one visit this callee has in its second one, to which the
        # start does not go.
        rules = tuple((callees, ((("go", 0),) if callees else (), rows[0])) for callees, rows in CROWDED[1][2])
        ins, outs = CROWDED[1][0], CROWDED[1][1]
        start = (((),), (("r",),), (((1,), ((("make", "r", ()), ("go", 0)),)),))
        program = (start, (((),) + ins, ((),) + outs, rules))
        self.assertTrue(is_program(program) and is_clean(program))
        self.assertEqual(seats(program), ((0, 1), (1, 1)))
        for call in (lambda: passings(program, 1, 1), lambda: alive_at(program, (0, ((0, ()),)), 0)):
            with self.assertRaises(TooMany):
                call()

    def test_too_many_comes_last_and_not_to_all(self):
        tree = least_tree(CROWDED, 0)
        self.assertEqual(len(passing_of(CROWDED, 1, (0, ()), 1)), 4)
        self.assertTrue(is_going_on(CROWDED, tree, 1, 0, (tree, 8)))
        self.assertFalse(is_going_on(CROWDED, tree, 1, 0, (tree, 9)))
        for call in (
                lambda: alive_at(CROWDED, tree, 99), lambda: going_on(CROWDED, tree, 99, 0),
                lambda: going_on(CROWDED, tree, 0, 99), lambda: last_moment(CROWDED, tree, 5),
        ):
            with self.assertRaises(NoEvent):
                call()
        with self.assertRaises(NoName):
            can_use(CROWDED, 1, 1, ("e",))

    def test_the_border(self):
        # Without rotating, there are fewer.
        program = shuffling_program([plain_leaf("abcd"), shuffle("bacd"), shuffle("abcd", "a"), shuffle("abcd", "c")])
        self.assertEqual(len(passings(program, 1, 1)), 2 * 2 * 4)
        self.assertEqual(alive_at(program, least_tree(program, 0), 2), (0, 1))


class Alive(unittest.TestCase):
    def test_dead_right_behind_the_make(self):
        tree = (0, ())
        self.assertEqual([alive_at(IDLE, tree, number) for number in range(5)], [(), (), (1,), (2,), ()])
        self.assertIsNone(last_moment(IDLE, tree, 0))
        self.assertIsNone(going_on(IDLE, tree, 1, 0))
        lot = ((0, "x"), (0, "y"))
        self.assertEqual((both_alive(IDLE, tree, lot), ends_ahead(IDLE, tree, lot)), ((), ((0, 1),)))
        self.assertEqual(most_alive_in(IDLE, tree, ((0, "x"),)), (0, 0))
        self.assertEqual(most_alive_in(IDLE, tree, ()), (0, 0))

    def test_one_callee_does_not_do_two_things_at_once(self):
        # Either a comes back as u, or c as v: a value that must do both is dead.
        for rule in (0, 1):
            self.assertEqual(alive_at(EITHER, (0, ((rule, ()),)), 1), ())
        self.assertEqual(alive_at(OPEN_EITHER, (0, ((0, ()),)), 1), (0,))
        tree = (0, ((0, ()),))
        found = going_on(OPEN_EITHER, tree, 1, 0)
        self.assertEqual(found[0], (0, ((2, ()),)))
        self.assertTrue(is_going_on(OPEN_EITHER, tree, 1, 0, found))
        self.assertEqual(last_moment(OPEN_EITHER, tree, 0), 1)

    def test_one_of_several_callees_that_begin_alike(self):
        rules = [
            ((), ((("hand", "u", "a"),), (("hand", "v", "c"), ("make", "w", ())))),
            ((), ((("hand", "u", "a"),), (("make", "v", ()), ("hand", "w", "c")))),
        ]
        row = EITHER_ROW[:4] + (("make", "r", ((0, "w"),)),)
        for told in (rules, rules[::-1]):
            callee = ((("a",), ("c",)), (("u",), ("v", "w")), tuple(told))
            program = ((((),), (("r",),), (((1,), (row,)),)), callee)
            for rule in (0, 1):
                tree = (0, ((rule, ()),))
                self.assertEqual(alive_at(program, tree, 1), (0,))
                found = going_on(program, tree, 1, 0)
                self.assertEqual(found[0], (0, ((told.index(rules[1]), ()),)))

    def test_visits_that_never_come_use_nothing(self):
        self.assertEqual([alive_at(UNVISITED, (0, ((0, ()),)), number) for number in range(4)], [(), (), (1,), ()])

    def test_a_value_comes_back_under_another_name(self):
        tree = (0, ((0, ()),))
        self.assertEqual([alive_at(LENT, tree, number) for number in range(5)], [(), (0,), (0,), (2,), ()])
        self.assertEqual(last_moment(LENT, tree, 0), 2)
        self.assertEqual(last_moment(LENT, (0, ((1, ()),)), 0), 1)

    def test_is_going_on(self):
        other = (0, ((1, ()),))
        right = ((0, ((0, ()),)), 2)
        self.assertTrue(is_going_on(LENT, other, 1, 0, right))
        for thing in (
                (other, 2), (right[0], 1), (right[0], 3), (right[0], True), (right[0], None), right[0], (right[0],),
                ((0, ()), 2), ((0, [(0, ())]), 2), list(right), (right[0], 2, 2), None, (None, 2), (right[0], 10 ** 20),
                (right[0], -1), ((True, ((0, ()),)), 2), "no",
        ):
            self.assertIs(is_going_on(LENT, other, 1, 0, thing), False, thing)
        self.assertFalse(is_going_on(LENT, other, 0, 0, right))
        self.assertFalse(is_going_on(LENT, other, 2, 0, right))
        # Used, but ahead of the MOMENT.
        self.assertTrue(is_going_on(DEEP, CHAIN, 3, 0, (CHAIN, 3)))
        self.assertFalse(is_going_on(DEEP, CHAIN, 3, 0, (CHAIN, 1)))
        # A value that is not made by then.
        self.assertFalse(is_going_on(DEEP, CHAIN, 1, 1, (CHAIN, 2)))
        self.assertIsNone(going_on(DEEP, CHAIN, 1, 1))

    def test_errors_in_the_order_of_the_arguments(self):
        for function in (going_on, is_going_on):
            more = () if function is going_on else (None,)
            for number, value, told in ((7, 99, 7), (-1, -1, -1), (6, 99, 99), (6, 5, 5), (0, -1, -1)):
                with self.assertRaises(NoEvent) as caught:
                    function(DEEP, CHAIN, number, value, *more)
                self.assertEqual(caught.exception.number, told)
        for number in (-1, 7):
            with self.assertRaises(NoEvent):
                alive_at(DEEP, CHAIN, number)
        for value in (-1, 5, 6):
            with self.assertRaises(NoEvent) as caught:
                last_moment(DEEP, CHAIN, value)
            self.assertEqual(caught.exception.number, value)

    def test_first_and_last_moment(self):
        for program, tree in ((DEEP, CHAIN), (TWICE, BOTH), (ONCE, (0, ()))):
            self.assertEqual(alive_at(program, tree, 0), ())
            self.assertEqual(alive_at(program, tree, len(events(program, tree))), ())

    def test_large_trees(self):
        for many in (1, 2, 3, 40):
            tree = pumped(DEEP, CHAIN, (0,), (0,), many)
            self.assertEqual(most_alive_in(DEEP, tree, D), (many + 1, many + 1))
        tree = pumped(DEEP, chain_of(30), (0,), (0,) * 30, 40)
        self.assertEqual(most_alive_in(DEEP, tree, D), (1201, 1201))
        self.assertEqual(len(alive_at(DEEP, tree, 700)), 700)

    def test_lots(self):
        self.assertEqual(both_alive(TWICE, BOTH, A), ((0, 1),))
        self.assertEqual(ends_ahead(TWICE, BOTH, A), ((0, 1),))
        self.assertEqual(most_alive_in(TWICE, BOTH, pairs_of(TWICE)), (2, 2))

    def test_the_most_may_come_late_and_the_first_moment_counts(self):
        def most(*steps):
            row = tuple(("make", name, tuple(words)) for name, words in steps)
            lot = tuple((0, name) for name in "wxyz")
            return most_alive_in(((((),), (("r",),), (((), (row,)),)),), (0, ()), lot)

        self.assertEqual(most(("x", ""), ("y", "x"), ("z", ""), ("r", "yz")), (2, 3))
        self.assertEqual(most(("x", ""), ("p", "x"), ("y", ""), ("r", "y")), (1, 1))
        self.assertEqual(most(("x", ""), ("p", ""), ("q", "x"), ("y", ""), ("z", ""), ("r", "yz")), (2, 5))
        # Two of them end at one MOMENT.
        self.assertEqual(most(("x", ""), ("y", ""), ("p", "xy"), ("z", ""), ("w", ""), ("r", "zw")), (2, 2))


class AgainstAPlainWalk(unittest.TestCase):
    def test_by_chance(self):
        told = 0
        for seed, program in clean_programs(range(60), procedures=4, visits=3, hands=0.6):
            trees = plain_trees(program, 0, 6)[:300]
            for tree in trees[:3]:
                told += self.look_at(program, tree, trees, seed)
        self.assertGreater(told, 1000)

    def look_at(self, program, tree, trees, seed):
        run, rows, told = PlainRun(program, tree), [], 0
        for number in range(len(run.events) + 1):
            alive = alive_at(program, tree, number)
            rows.append(alive)
            self.assertLessEqual(set(plain_alive(program, tree, number, trees)), set(alive), seed)
            known = {path: rule_at(tree, path) for path in run.known(number)}
            for value in range(len(run.events)):
                if step_of(program, tree, value)[0] != "make":
                    continue
                found = going_on(program, tree, number, value)
                self.assertEqual(found is not None, value in alive, (seed, number, value))
                told += 1
                if found is not None:
                    self.assertTrue(is_going_on(program, tree, number, value, found))
                    self.assertTrue(agrees(found[0], known))
                    self.assertGreaterEqual(found[1], number)
                    if nodes(found[0]) < 60:
                        self.assertIn(value, PlainRun(program, found[0]).events[found[1]]["uses"])
        self.look_at_lasts(program, tree, run, rows)
        return told

    def look_at_lasts(self, program, tree, run, rows):
        lot = pairs_of(program)[:3]
        values = [at for at, event in enumerate(run.events) if event["pair"] in lot]
        moments_of = {value: [at for at, row in enumerate(rows) if value in row] for value in values}
        for value, times in moments_of.items():
            self.assertEqual(last_moment(program, tree, value), times[-1] if times else None)
            # Alive at each MOMENT from the make to the last one.
            self.assertEqual(times, list(range(value + 1, value + 1 + len(times))))
        both, ends = set(), set()
        for number, row in enumerate(rows):
            for one in values:
                for two in values:
                    if one < two and one in row and two in row:
                        both.add((one, two))
                    if max(one, two) < number and one not in row and two in row:
                        ends.add((one, two))
        self.assertEqual(both_alive(program, tree, lot), tuple(sorted(both)))
        self.assertEqual(ends_ahead(program, tree, lot), tuple(sorted(ends)))
        many = [len([value for value in row if value in values]) for row in rows]
        best = max(many)
        self.assertEqual(most_alive_in(program, tree, lot), (best, many.index(best)) if best else (0, 0))


if __name__ == "__main__":
    unittest.main()
