"""Point [19]: orders of STEPS, and visits that are joined."""

import itertools
import unittest

from crossnest.errors import CanNot, TooMany
from crossnest.lots import fewest_lots, fits
from crossnest.orders import (
    best_orders, exchanged, fewest_by_orders, in_order, in_orders, is_order, joined_visits, orders_of,
)
from crossnest.programs import fault, is_program
from tests.plain import PlainRun
from tests.samples import A, BOTH, D, DEEP, LENT, ONCE, TWICE, wide_program
from tests.small import error_told, small_programs
from tests.test_rounds import make, row_program

GO = ("go", 0)
SUMS = row_program(make("x"), make("y"), make("p", "x"), make("q", "y"), make("r", "p", "q"))
X, Y = (0, "x"), (0, "y")
# Six makes that wait for none: 720 orders, and with one more 5,040.
FREE = row_program(*[make(name) for name in "abcder"])
FREER = row_program(*[make(name) for name in "abcdefr"])
# A callee with three visits, all in one row.
THRICE = (
    (((),), (("r",),), (((1,), ((GO, make((0, "i"), (0, "a")), GO, GO, make("r", (0, "c"))),)),)),
    (((), ("i",), ()), (("a",), (), ("c",)), (((), ((make("a"),), (), (make("c", "i", "a"),))),)),
)
# A start with two visits, and a callee that is gone to in both.
HALVES = (
    (((), ()), (("q",), ("r",)), (((1,), ((GO, make("q", (0, "a"))), (GO, make("r", "q", (0, "b"))))),)),
    (((), ()), (("a",), ("b",)), (((), ((make("a"),), (make("b", "a"),))),)),
)


def rows_beside(one, other):
    """A start that makes each of these letters of the one ahead of it, and r of both ends."""
    steps = [make(name, *names[:at][-1:]) for names in (one, other) for at, name in enumerate(names)]
    return row_program(*steps, make("r", one[-1], other[-1]))


def plain_orders(program, procedure, rule):
    """All ORDERS, out of all ways to put the STEPS, one by one."""
    ins, outs, rules = program[procedure]
    callees, rows = rules[rule]
    found = []
    for order in itertools.product(*[itertools.permutations(range(len(row))) for row in rows]):
        goes_stay = all(
            [at for at in part if row[at] == step] == [at for at in range(len(row)) if row[at] == step]
            for row, part in zip(rows, order) for step in row if step[0] == "go"
        )
        told = tuple(tuple(row[at] for at in part) for row, part in zip(rows, order))
        changed = rules[:rule] + ((callees, told),) + rules[rule + 1:]
        put = program[:procedure] + ((ins, outs, changed),) + program[procedure + 1:]
        if goes_stay and fault(put) is None:
            found.append(order)
    return sorted(found)


def makes_told(program, tree):
    """What each make of a RUN makes, by node and NAME, out of what; and what is asked for."""
    run = PlainRun(program, tree)

    def told(value):
        return run.events[value]["sets"]

    made = {
        event["sets"]: tuple(told(run.at[slot]) for slot in event["slots"])
        for event in run.events if event["step"][0] == "make"
    }
    asked = sorted(
        (name, told(run.at[((), name)]))
        for event in run.events if event["step"][0] == "ask" for name in event["step"][1]
    )
    return made, asked


def all_orders(program):
    rules = [[plain_orders(program, at, rule) for rule in range(len(told[2]))] for at, told in enumerate(program)]
    return list(itertools.product(*[list(itertools.product(*told)) for told in rules]))


def short(program):
    """Whether each RULE has few STEPS."""
    return all(sum(len(row) for row in rule[1]) <= 6 for _, _, rules in program for rule in rules)


class Plain(unittest.TestCase):
    def test_goes_to_one_place_keep_their_order(self):
        pair = TWICE[0][2][0][1][0]
        self.assertEqual(pair[:4], (GO, ("go", 1), GO, ("go", 1)))
        self.assertEqual(orders_of(TWICE, 0, 0), [
            ((0, 1, 2, 3, 4),), ((0, 1, 3, 2, 4),), ((0, 2, 1, 3, 4),), ((1, 0, 2, 3, 4),), ((1, 0, 3, 2, 4),),
            ((1, 3, 0, 2, 4),),
        ])
        for order in ((2, 1, 0, 3, 4), (2, 0, 1, 3, 4), (0, 3, 2, 1, 4)):
            self.assertFalse(is_order(TWICE, 0, 0, (order,)))
            self.assertEqual(error_told(in_order, TWICE, 0, 0, (order,)), ("Unfit",))
        self.assertEqual(orders_of(TWICE, 1, 0), [((0,), (0,))])
        # What is made for a later visit comes between both goes.
        self.assertEqual(orders_of(THRICE, 0, 0), [((0, 1, 2, 3, 4),)])
        self.assertEqual(orders_of(THRICE, 1, 0), [((0,), (), (0,))])
        both = ((((),), ((),), (((1,), ((GO, GO),)),)), (((), ()), ((), ()), (((), ((), ())),)))
        self.assertEqual(orders_of(both, 0, 0), [((0, 1),)])
        self.assertEqual(error_told(exchanged, both, 0, 0, 0, 0), ("Unfit",))
        self.assertEqual(orders_of(both, 1, 0), [((), ())])

    def test_is_order(self):
        self.assertTrue(is_order(SUMS, 0, 0, ((1, 0, 3, 2, 4),)))
        for thing in (
                ((0, 1, 2, 4, 3),), ((0, 2, 1, 3),), ((0, 2, 1, 3, 4, 5),), ((0, 2, 1, 3, 3),), ((0, 2, 1, 3, -1),),
                ((False, 1, 2, 3, 4),), ((0, True, 2, 3, 4),), ([0, 1, 2, 3, 4],), [(0, 1, 2, 3, 4)], (0, 1, 2, 3, 4),
                ((0, 1, 2, 3, 4), ()), (), ((),), (("0", 1, 2, 3, 4),), ((0, 1, 2, 3, None),), None, True, 0, "01234",
                ((0, 1, 2, 3, (4,)),), ((2, 0, 1, 3, 4),), ((10 ** 30, 0, 1, 2, 3),),
        ):
            self.assertFalse(is_order(SUMS, 0, 0, thing), thing)

    def test_orders_that_are_none(self):
        good = ((((0, 1, 2, 3, 4),),),)
        self.assertEqual(in_orders(SUMS, good), SUMS)
        for orders in ((), ((),), (((),),), good + good, ((((0, 1, 2, 3),),),), ((((1, 0, 2, 3, 4),), ((0, 1, 2, 3, 4),)),)):
            self.assertEqual(error_told(in_orders, SUMS, orders), ("Unfit",))
        self.assertEqual(in_orders(TWICE, ((((0, 1, 2, 3, 4),),), (((0,), (0,)),))), TWICE)
        self.assertEqual(error_told(in_orders, TWICE, ((((0, 1, 2, 3, 4),),), (((0,), (1,)),))), ("Unfit",))

    def test_exchanged(self):
        self.assertEqual(exchanged(SUMS, 0, 0, 0, 2), in_order(SUMS, 0, 0, ((0, 1, 3, 2, 4),)))
        for visit, step in ((0, 3), (0, 4), (0, 5), (0, -1), (1, 0), (-1, 0), (0, 10 ** 6), (10 ** 6, 0)):
            self.assertEqual(error_told(exchanged, SUMS, 0, 0, visit, step), ("Unfit",))
        # A row ends with its visit.
        self.assertEqual(error_told(exchanged, TWICE, 1, 0, 0, 0), ("Unfit",))
        self.assertEqual(error_told(exchanged, DEEP, 1, 1, 0, 0), ("Unfit",))

    def test_too_many(self):
        self.assertEqual(len(orders_of(FREE, 0, 0)), 720)
        self.assertEqual(orders_of(FREE, 0, 0), [(order,) for order in itertools.permutations(range(6))])
        for program in (FREER, row_program(*[make(name) for name in "abcdefghijkr"])):
            self.assertEqual(error_told(orders_of, program, 0, 0), ("TooMany",))
            self.assertTrue(is_order(program, 0, 0, (tuple(range(len(program[0][2][0][1][0]))),)))
            for call in (best_orders, fewest_by_orders):
                self.assertEqual(error_told(call, program, "cell", ()), ("TooMany",))
        # 720 for the RULE, yet more than 200 for the PROGRAM; two RULES of 15 ORDERS each, and of 14.
        self.assertEqual(error_told(best_orders, FREE, "cell", ((0, "a"),)), ("TooMany",))
        self.assertEqual(error_told(fewest_by_orders, FREE, "stack", ()), ("TooMany",))
        two = (make("x"), make("y"), make("p", "x"), make("q", "x"), make("r", "q"))
        many = len(orders_of(row_program(*two), 0, 0))
        rules = row_program(*two)[0][2] * 2
        program = ((((),), (("r",),), rules),)
        self.assertEqual(error_told(best_orders, program, "cell", ()), ("TooMany",) if many ** 2 > 200 else None)
        self.assertGreater(many ** 2, 200)
        self.assertLessEqual(many, 200)

    def test_just_so_many_orders(self):
        # Two rows of makes, each made of the one ahead: 10 ORDERS, 20, 21.
        few, some, more = (rows_beside(one, other)[0][2][0] for one, other in (("ab", "cde"), ("abc", "def"), ("ab", "cdefg")))
        self.assertEqual([len(orders_of(((((),), (("r",),), (rule,)),), 0, 0)) for rule in (few, some, more)], [10, 20, 21])
        self.assertIsNotNone(best_orders(((((),), (("r",),), (few, some)),), "cell", ((0, "a"),)))
        self.assertIsNone(error_told(fewest_by_orders, ((((),), (("r",),), (few, some)),), "stack", ((0, "a"),)))
        for call in (best_orders, fewest_by_orders):
            self.assertEqual(error_told(call, ((((),), (("r",),), (few, more)),), "cell", ((0, "a"),)), ("TooMany",))

    def test_too_many_of_the_home(self):
        wide = wide_program("abcde", "")
        few = (make((0, "a")),) + tuple(make((0, name), (0, before)) for before, name in zip("abcd", "bcde"))
        narrow = ((((),), (("r",),), (((1,), (few + (GO, make("r", (0, "e"))),)),)),) + wide[1:]
        self.assertLess(len(all_orders(narrow)), 20)
        lot = ((1, "a"), (1, "b"))
        for home in ("stack", "region", "queue", "order"):
            for call in (best_orders, fewest_by_orders):
                self.assertEqual(error_told(call, narrow, home, lot), ("TooMany",))
            self.assertEqual(fewest_by_orders(narrow, home, ())[0], 0)
        self.assertIsNotNone(best_orders(narrow, "cell", lot))

    def test_errors_in_their_order(self):
        for call, rest in (
                (is_order, (None,)), (orders_of, ()), (in_order, (None,)), (exchanged, (9, 9)),
        ):
            self.assertEqual(error_told(call, DEEP, 2, 9, *rest), ("NoProcedure", 2))
            self.assertEqual(error_told(call, DEEP, -1, 0, *rest), ("NoProcedure", -1))
            self.assertEqual(error_told(call, DEEP, 1, 2, *rest), ("NoRule", 2))
            self.assertEqual(error_told(call, DEEP, 1, -1, *rest), ("NoRule", -1))
        for call in (best_orders, fewest_by_orders):
            told = lambda home, lot: error_told(call, FREER, home, lot)
            self.assertEqual(told("shelf", ((0, "zz"), (2, "a"))), ("NoProcedure", 2))
            self.assertEqual(told("shelf", ((0, "zz"),)), ("NoName", "zz"))
            for home in ("shelf", "round", "homes", "heap"):
                self.assertEqual(told(home, ((0, "a"),)), ("Unfit",))
            self.assertEqual(told("cell", ((0, "a"),)), ("TooMany",))

    def test_best_orders(self):
        self.assertEqual(best_orders(ONCE, "cell", ()), ((((0, 1),),),))
        self.assertEqual(fewest_by_orders(ONCE, "cell", ()), (0, ((((0, 1),),),)))
        self.assertEqual(best_orders(TWICE, "cell", A), ((((0, 2, 1, 3, 4),),), (((0,), (0,)),)))
        self.assertIsNone(best_orders(DEEP, "cell", D))
        self.assertIsNone(fewest_by_orders(DEEP, "cell", D))
        self.assertEqual(fewest_by_orders(DEEP, "stack", D)[0], 1)

    def test_joined_visits(self):
        joined = joined_visits(THRICE, 1, 1)
        self.assertEqual(joined[1][:2], (((), ("i",)), (("a",), ("c",))))
        self.assertEqual(joined[1][2][0][1], ((make("a"),), (make("c", "i", "a"),)))
        self.assertEqual(joined[0][2][0][1][0], (GO, make((0, "i"), (0, "a")), GO, make("r", (0, "c"))))
        # i is made of what the first visit gives: both can not be one.
        self.assertEqual(error_told(joined_visits, THRICE, 1, 0), ("CanNot",))
        # The goes stand in two rows; then in one, as the start's visits are one.
        self.assertEqual(error_told(joined_visits, HALVES, 1, 0), ("CanNot",))
        whole = joined_visits(HALVES, 0, 0)
        self.assertEqual(whole[0], (((),), (("q", "r"),), (
            ((1,), ((GO, make("q", (0, "a")), GO, make("r", "q", (0, "b"))),)),
        )))
        # q is made between both goes: it is not sound ahead of the one go that is left.
        self.assertEqual(error_told(joined_visits, whole, 1, 0), ("CanNot",))
        later = joined_visits(exchanged(whole, 0, 0, 0, 1), 1, 0)
        self.assertEqual(later[0][2][0][1][0], (GO, make("q", (0, "a")), make("r", "q", (0, "b"))))

    def test_joined_visits_of_a_procedure_that_calls_itself(self):
        inner = ((1,), ((GO, make("a", (0, "a"))), (GO, make("b", (0, "b"), "a"))))
        ring = (((((),), (("r",),), (((1,), ((GO, GO, make("r", (0, "b"))),)),))), HALVES[1][:2] + ((HALVES[1][2][0], inner),))
        self.assertTrue(is_program(ring))
        # Its own goes stand in two rows as it stands, though in one then.
        self.assertEqual(error_told(joined_visits, ring, 1, 0), ("CanNot",))
        close = ((1,), ((GO, GO, make("a", (0, "b"))), (make("b", "a"),)))
        ring = (ring[0], HALVES[1][:2] + ((HALVES[1][2][0], close),))
        joined = joined_visits(ring, 1, 0)
        self.assertEqual(joined[1], (((),), (("a", "b"),), (
            ((), ((make("a"), make("b", "a")),)), ((1,), ((GO, make("a", (0, "b")), make("b", "a")),)),
        )))
        # One go without the other one.
        half = ((1,), ((GO, make("a", (0, "a"))), (make("b", "a"),)))
        ring = (ring[0], HALVES[1][:2] + ((HALVES[1][2][0], half),))
        self.assertEqual(error_told(joined_visits, ring, 1, 0), ("CanNot",))

    def test_no_visits_to_be_joined(self):
        for visit in (-1, 1, 2, 10 ** 6):
            self.assertEqual(error_told(joined_visits, TWICE, 1, visit), ("Unfit",))
        self.assertEqual(error_told(joined_visits, TWICE, 0, 0), ("Unfit",))
        self.assertEqual(error_told(joined_visits, TWICE, 2, 5), ("NoProcedure", 2))
        self.assertEqual(error_told(joined_visits, TWICE, -1, 5), ("NoProcedure", -1))


class ForAllPrograms(unittest.TestCase):
    def test_all_orders_of_rules(self):
        many = 0
        for program, _, _, _ in small_programs(range(700, 712)):
            for at, (_, _, rules) in enumerate(program):
                for rule, (_, rows) in enumerate(rules):
                    if sum(len(row) for row in rows) > 6:
                        continue
                    found = plain_orders(program, at, rule)
                    self.assertEqual(orders_of(program, at, rule), found)
                    many += len(found) > 1
                    self.assertTrue(all(is_order(program, at, rule, order) for order in found))
                    self.look_at_neighbours(program, at, rule, rows, found)
        self.assertGreater(many, 40)

    def look_at_neighbours(self, program, at, rule, rows, found):
        """Each ORDER comes from the first one by exchanging neighbours."""
        come, waiting = {found[0]}, [found[0]]
        while waiting:
            order = waiting.pop()
            put = in_order(program, at, rule, order)
            for visit, row in enumerate(rows):
                for step in range(len(row) - 1):
                    numbers = list(order[visit])
                    numbers[step], numbers[step + 1] = numbers[step + 1], numbers[step]
                    other = order[:visit] + (tuple(numbers),) + order[visit + 1:]
                    try:
                        self.assertEqual(exchanged(put, at, rule, visit, step), in_order(program, at, rule, other))
                    except ValueError:
                        self.assertNotIn(other, found)
                        continue
                    self.assertIn(other, found)
                    if other not in come:
                        come.add(other)
                        waiting.append(other)
        self.assertEqual(sorted(come), found)

    def test_the_same_makes_out_of_the_same(self):
        for program, _, rows, _ in small_programs(range(712, 720)):
            if not short(program):
                continue
            for orders in all_orders(program)[::5][:6]:
                put = in_orders(program, orders)
                for tree, _ in rows[:12]:
                    self.assertEqual(makes_told(put, tree), makes_told(program, tree))

    def test_joined_visits(self):
        many = 0
        for program, _, rows, _ in small_programs(range(720, 800)):
            for at, (ins, _, _) in enumerate(program):
                for visit in range(len(ins) - 1):
                    try:
                        joined = joined_visits(program, at, visit)
                    except CanNot:
                        continue
                    many += 1
                    self.assertTrue(is_program(joined))
                    self.assertEqual(len(joined[at][0]), len(ins) - 1)
                    for tree, _ in rows[:12]:
                        self.assertEqual(makes_told(joined, tree), makes_told(program, tree))
        self.assertGreater(many, 20)

    def test_best_and_fewest(self):
        some = 0
        for program, lot, _, _ in small_programs(range(800, 806), names=3):
            if not short(program):
                continue
            told = all_orders(program)
            if len(told) > 12:
                continue
            some += 1
            for home in ("cell", "stack", "queue", "region", "order"):
                good = [orders for orders in told if fits(in_orders(program, orders), home, lot)]
                self.assertEqual(best_orders(program, home, lot), min(good) if good else None)
                counted = [
                    (len(parting), orders) for orders in told
                    for parting in [fewest_lots(in_orders(program, orders), home, lot)] if parting is not None
                ]
                self.assertEqual(fewest_by_orders(program, home, lot), min(counted) if counted else None)
        self.assertGreater(some, 5)

    def test_twice_in_other_orders(self):
        for orders in all_orders(TWICE):
            self.assertEqual(makes_told(in_orders(TWICE, orders), BOTH), makes_told(TWICE, BOTH))
        self.assertEqual(len(all_orders(LENT)), 1)


if __name__ == "__main__":
    unittest.main()
