"""Points [12] and [13]: stacks, queues, and regions let go from their end or in the order made."""

import unittest

from crossnest.alive import alive_at
from crossnest.errors import TooMany
from crossnest.openings import least_moment
from crossnest.patterns import pattern_of
from crossnest.queues import (
    can_be_order, can_be_queue, is_nesting, is_outlasting, kept_up, missed_in_queue, nesting,
    order_rows, outlasting, queue_rows,
)
from crossnest.rounds import can_be_cell
from crossnest.stacks import (
    can_be_region, can_be_stack, crossing, is_crossing, is_overstay, missed_uses, overstay,
    region_rows, stack_rows, too_long,
)
from crossnest.trees import nodes
from tests.plain import plain_alive, plain_numbers, plain_trees
from tests.samples import (
    A, AGAIN, ASKED, BOTH, CHAIN, CROWDED, D, DEEP, LENT, ONCE, ROOMY, TWICE, wide_program,
)
from tests.small import small_programs
from tests.test_rounds import make, row_program

STACK, QUEUE = pattern_of("stack", 1), pattern_of("queue", 1)
X_AND_Y, SLOW = ((1, "x"), (1, "y")), (0, ((1, ()),))
ALL = (can_be_stack, can_be_queue, can_be_region, can_be_order)


def plain_piles(run, lot, left):
    """What lies there MOMENT by MOMENT: left tells what an EVENT leaves of a list."""
    pile, rows = [], [()]
    for at, event in enumerate(run.events):
        pile = left(list(pile), at, event)
        if event["pair"] in lot:
            pile.append(at)
        rows.append(tuple(pile))
    return rows


def stack_left(pile, at, event):
    low = [place for place, value in enumerate(pile) if value in event["uses"]]
    return pile[:min(low) + 1] if low else pile


def queue_left(pile, at, event):
    high = [place for place, value in enumerate(pile) if value in event["uses"]]
    return pile[max(high):] if high else pile


def plain_missed(run, lot, rows):
    return tuple(sorted(
        (at, value) for at, event in enumerate(run.events) for value in event["uses"]
        if run.events[value]["pair"] in lot and value not in rows[at]
    ))


def dead_first(alive):
    """What a region leaves: dead ones go from the end."""

    def left(pile, at, event):
        while pile and pile[-1] not in alive[at + 1]:
            pile.pop()
        return pile

    return left


def dead_front(alive):
    def left(pile, at, event):
        while pile and pile[0] not in alive[at + 1]:
            pile.pop(0)
        return pile

    return left


def overstays(run, lot, alive):
    """All triples of OVERSTAYS, and of OUTLASTINGS, ascending."""
    made = [at for at, event in enumerate(run.events) if event["pair"] in lot]
    triples = [
        (event, other, moment) for event in made for other in made if event < other
        for moment in range(other + 1, len(run.events) + 1)
    ]
    return (
        [told for told in triples if told[0] in alive[told[1] + 1]
         and told[0] not in alive[told[2]] and told[1] in alive[told[2]]],
        [told for told in triples if told[0] in alive[told[2]] and told[1] not in alive[told[2]]],
    )


class Plain(unittest.TestCase):
    def test_edges(self):
        tree, lot = (0, ()), ((0, "p"), (0, "x"), (0, "y"))
        # p is dead right behind its make; x is used twice.
        self.assertEqual(stack_rows(AGAIN, tree, lot), [(), (0,), (0, 1), (0, 2), (0, 2), (0,), (0,)])
        self.assertEqual(missed_uses(AGAIN, tree, lot), ((3, 1),))
        self.assertEqual(queue_rows(AGAIN, tree, lot), [(), (0,), (0, 1), (0, 1, 2), (1, 2), (1, 2), (1, 2)])
        self.assertEqual(missed_in_queue(AGAIN, tree, lot), ((4, 0),))
        self.assertEqual(region_rows(AGAIN, tree, lot), [(), (0,), (0, 1), (0, 1, 2), (0,), (), ()])
        self.assertEqual(too_long(AGAIN, tree, lot), ())
        self.assertEqual(order_rows(AGAIN, tree, lot), [(), (0,), (0, 1), (0, 1, 2), (0, 1, 2), (), ()])
        self.assertEqual(kept_up(AGAIN, tree, lot), ((3, 2), (4, 1), (4, 2)))
        for rows in (stack_rows, queue_rows, region_rows, order_rows):
            self.assertEqual(rows(AGAIN, tree, ()), [()] * 7)
        for told in (missed_uses, missed_in_queue, too_long, kept_up):
            self.assertEqual(told(AGAIN, tree, ()), ())
        for serves in ALL:
            self.assertTrue(serves(AGAIN, ()))

    def test_several_values_used_by_one_event(self):
        program = row_program(make("x"), make("y"), make("z"), make("w", "y", "z"), make("r", "x", "z"))
        lot = tuple((0, name) for name in "xyz")
        self.assertEqual(stack_rows(program, (0, ()), lot)[3:6], [(0, 1, 2), (0, 1), (0,)])
        self.assertEqual(missed_uses(program, (0, ()), lot), ((4, 2),))
        self.assertEqual(queue_rows(program, (0, ()), lot)[3:6], [(0, 1, 2), (2,), (2,)])
        self.assertEqual(missed_in_queue(program, (0, ()), lot), ((4, 0),))

    def test_one_used_and_one_made(self):
        program = row_program(make("x"), make("y", "x"), make("z", "x"), make("r", "y"))
        lot = ((0, "x"), (0, "y"))
        self.assertEqual(stack_rows(program, (0, ()), lot), [(), (0,), (0, 1), (0,), (0,), (0,)])
        self.assertEqual(crossing(program, lot), ((0, ()), (0, 1, 2, 3)))
        self.assertEqual(queue_rows(program, (0, ()), lot), [(), (0,), (0, 1), (0, 1), (1,), (1,)])
        self.assertIsNone(nesting(program, lot))

    def test_a_value_that_comes_back_under_another_name(self):
        lot = ((0, "r"), (1, "x"))
        tree = (0, ((0, ()),))
        self.assertEqual(stack_rows(LENT, tree, lot), [(), (0,), (0,), (0, 2), (0, 2)])
        self.assertEqual(region_rows(LENT, tree, lot), [(), (0,), (0,), (2,), ()])
        self.assertEqual(order_rows(LENT, SLOW, ((1, "x"), (1, "y"))), [(), (0,), (1,), (), ()])

    def test_asked(self):
        self.assertEqual(region_rows(ASKED, SLOW, X_AND_Y), [(), (0,), (0, 1), (0, 1), (), (), ()])
        self.assertEqual([serves(ASKED, X_AND_Y) for serves in ALL], [True, True, False, True])
        both = ((0, "x"), (0, "y"))
        self.assertEqual([serves(AGAIN, both) for serves in ALL], [False, False, True, False])

    def test_what_is_none(self):
        wrong = (
            (0, 1, 2, 3), (CHAIN,), (CHAIN, None), (CHAIN, "0123"), (CHAIN, 3), (None, (0, 1, 2, 3)), CHAIN, (), 3,
            (CHAIN, (0, 1, 2)), (CHAIN, (0, 1, 2, 3, 4)), (CHAIN, [0, 1, 2, 3]), [CHAIN, (0, 1, 2, 3)],
            (list(CHAIN), (0, 1, 2, 3)), (CHAIN, (0, 1, 3, 2)), (CHAIN, (1, 0, 2, 3)), (CHAIN, (0, 1, 2, 2)),
            (CHAIN, (0, 1, 2, 9)), (CHAIN, (-6, 1, 2, 3)), (CHAIN, (False, 1, 2, 3)), (CHAIN, (0, True, 2, 3)),
            (CHAIN, ("0", 1, 2, 3)), (CHAIN, (None, 1, 2, 3)), (BOTH, (0, 1, 2, 3)), (CHAIN, (0, 1, 2, 4)),
            (CHAIN, (0, 1, 2, 3), ()), "nesting", None, True,
        )
        for thing in wrong:
            self.assertFalse(is_nesting(DEEP, D, thing), thing)
            self.assertFalse(is_crossing(DEEP, D, thing), thing)
        self.assertTrue(is_nesting(DEEP, D, (CHAIN, (0, 1, 2, 3))))
        self.assertFalse(is_nesting(DEEP, ((1, "u"),), (CHAIN, (0, 1, 2, 3))))
        wrong = (
            (BOTH, (0, 1)), (BOTH, (0, 1, 3, 4)), (BOTH, [0, 1, 3]), [BOTH, (0, 1, 3)], (BOTH, (0, 3, 1)),
            (BOTH, (0, 1, 4)), (BOTH, (0, 1, 2)), (BOTH, (0, 1, 8)), (BOTH, (0, 2, 3)), (BOTH, (-6, 1, 3)),
            (BOTH, (0, 1, True)), (BOTH, (False, 1, 3)), (BOTH, (0, 1, None)), (BOTH, (0, 1, 1)), (CHAIN, (0, 1, 3)),
            (BOTH, "013"), ((0, ()), (0, 1, 3)), 3, "overstay", None, True, (BOTH, (0, 1, 10 ** 20)),
        )
        for thing in wrong:
            self.assertFalse(is_overstay(TWICE, A, thing), thing)
            self.assertFalse(is_outlasting(TWICE, A, thing), thing)
        self.assertTrue(is_overstay(TWICE, A, (BOTH, (0, 1, 3))))
        for thing in ((CHAIN, (0, 1, 2)), (CHAIN, (0, 1, 4)), (CHAIN, (1, 0, 3)), (CHAIN, (0, 1, 7)), (BOTH, (0, 1, 3))):
            self.assertFalse(is_outlasting(DEEP, D, thing), thing)
        # A MOMENT behind both may be that right behind the later make.
        self.assertTrue(is_outlasting(AGAIN, ((0, "p"), (0, "x")), ((0, ()), (0, 2, 3))))

    def test_too_many(self):
        for program in (wide_program("abcde", ""), wide_program("", "abcde")):
            for call in ALL + (crossing, nesting, overstay, outlasting):
                with self.assertRaises(TooMany):
                    call(program, ())
        tree = (0, ((0, ()),))
        for call in (region_rows, too_long, order_rows, kept_up):
            with self.assertRaises(TooMany):
                call(CROWDED, tree, ())
        lot = ((1, "a"), (1, "b"))
        for call in (is_overstay, is_outlasting):
            with self.assertRaises(TooMany):
                call(CROWDED, lot, (tree, (0, 1, 2)))
            for thing in (None, (tree, (0, 1)), (tree, (1, 0, 2)), (BOTH, (0, 1, 2))):
                self.assertFalse(call(CROWDED, lot, thing))
        self.assertFalse(is_crossing(CROWDED, lot, (tree, (0, 1, 2, 3))))
        self.assertFalse(is_nesting(CROWDED, lot, (tree, (0, 1, 2, 3))))
        self.assertEqual(len(stack_rows(CROWDED, tree, lot)), len(queue_rows(CROWDED, tree, lot)))
        self.assertEqual(len(region_rows(ROOMY, tree, lot)), 11)


class ForAllRuns(unittest.TestCase):
    def test_stacks_and_queues(self):
        for program, lot, rows, most in small_programs(range(100, 112)):
            for told in (
                    (STACK, stack_rows, missed_uses, crossing, is_crossing, can_be_stack, stack_left),
                    (QUEUE, queue_rows, missed_in_queue, nesting, is_nesting, can_be_queue, queue_left),
            ):
                pattern, rows_of, missed, least, is_such, serves, left = told
                first = None
                for tree, run in rows:
                    piles = plain_piles(run, lot, left)
                    self.assertEqual(rows_of(program, tree, lot), piles)
                    self.assertEqual(missed(program, tree, lot), plain_missed(run, lot, piles))
                    shown = list(plain_numbers(run, lot, pattern))
                    self.assertEqual(bool(shown), missed(program, tree, lot) != ())
                    for numbers in shown[:3]:
                        self.assertTrue(is_such(program, lot, (tree, numbers)))
                    if shown and first is None:
                        first = (tree, shown[0])
                found = least(program, lot)
                self.assertEqual(serves(program, lot), found is None)
                if found is not None and nodes(found[0]) > most:
                    self.assertIsNone(first)
                    self.assertTrue(is_such(program, lot, found))
                else:
                    self.assertEqual(found, first)

    def test_regions_and_orders(self):
        for program, lot, rows, most in small_programs(range(120, 138)):
            if most < 6:
                continue
            first = [None, None]
            for tree, run in rows:
                if nodes(tree) > most - 2:
                    break
                alive = [alive_at(program, tree, moment) for moment in range(len(run.events) + 1)]
                region = plain_piles(run, lot, dead_first(alive))
                self.assertEqual(region_rows(program, tree, lot), region)
                lying = tuple(
                    (moment, value) for moment, pile in enumerate(region) for at, value in enumerate(pile)
                    if value not in alive[moment] and any(other in alive[moment] for other in pile[at:])
                )
                self.assertEqual(too_long(program, tree, lot), lying)
                order = plain_piles(run, lot, dead_front(alive))
                self.assertEqual(order_rows(program, tree, lot), order)
                kept = tuple(sorted(
                    (moment, value) for moment, pile in enumerate(order) for at, value in enumerate(pile)
                    if value not in alive[moment] and any(other in alive[moment] for other in pile[:at])
                ))
                self.assertEqual(kept_up(program, tree, lot), kept)
                told = overstays(run, lot, alive)
                for number, is_such in ((0, is_overstay), (1, is_outlasting)):
                    if told[number] and first[number] is None:
                        first[number] = (tree, told[number][0])
                    for triple in told[number][:3]:
                        self.assertTrue(is_such(program, lot, (tree, triple)))
                    for triple in told[1 - number][:3]:
                        self.assertEqual(is_such(program, lot, (tree, triple)), triple in told[number])
            for number, least, serves in ((0, overstay, can_be_region), (1, outlasting, can_be_order)):
                found = least(program, lot)
                self.assertEqual(serves(program, lot), found is None)
                if found is None or nodes(found[0]) <= most - 2:
                    self.assertEqual(found, first[number])
                else:
                    self.assertIsNone(first[number])
                home = ("region", "order")[number]
                self.assertEqual(found, least_moment(program, lot, home))

    def test_lying_too_long_exactly_where_there_is_an_overstay(self):
        for program, lot, rows, most in small_programs(range(150, 162)):
            if overstay(program, lot) is None:
                for tree, _ in rows[:25]:
                    self.assertEqual(too_long(program, tree, lot), ())
            else:
                self.assertNotEqual(too_long(program, overstay(program, lot)[0], lot), ())
            if outlasting(program, lot) is None:
                for tree, _ in rows[:25]:
                    self.assertEqual(kept_up(program, tree, lot), ())
            else:
                self.assertNotEqual(kept_up(program, outlasting(program, lot)[0], lot), ())

    def test_alive_as_plain_walks_tell(self):
        # The rows above stand on alive_at: here it is judged by plain walks alone.
        for program, tree in ((DEEP, CHAIN), (TWICE, BOTH), (ASKED, SLOW), (LENT, SLOW), (ONCE, (0, ()))):
            trees = plain_trees(program, 0, 6)
            for moment in range(len(region_rows(program, tree, ()))):
                self.assertEqual(alive_at(program, tree, moment), plain_alive(program, tree, moment, trees))

    def test_each_serves_by_twos_and_where_a_cell_does(self):
        for program, lot, _, _ in small_programs(range(170, 182)):
            for serves in ALL:
                twos = [tuple(sorted({one, other})) for one in lot for other in lot]
                told = serves(program, lot)
                self.assertEqual(told, all(serves(program, two) for two in twos))
                if can_be_cell(program, lot):
                    self.assertTrue(told)


if __name__ == "__main__":
    unittest.main()
