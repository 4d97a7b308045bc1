"""Point [14]: names that share a home, and PARTINGS."""

import itertools
import random
import unittest

from crossnest.errors import TooMany
from crossnest.lots import (
    cheapest_lots, fewest_lots, fits, greatest_lots, is_parting, none_share, share, table_of,
)
from crossnest.programs import pairs_of
from crossnest.queues import can_be_order, can_be_queue
from crossnest.rounds import can_be_cell
from crossnest.stacks import can_be_region, can_be_stack
from tests.samples import DEEP, FIVE, FIVE_NAMES, TWICE, wide_program
from tests.small import error_told, small_programs

SERVES = {
    "cell": can_be_cell, "stack": can_be_stack, "region": can_be_region, "queue": can_be_queue,
    "order": can_be_order,
}
A, B, C, D, E = FIVE_NAMES
# What each function takes behind the home, lot as given.
CALLS = (
    (table_of, lambda lot: (lot,)), (fits, lambda lot: (lot,)), (greatest_lots, lambda lot: (lot,)),
    (fewest_lots, lambda lot: (lot,)), (none_share, lambda lot: (lot,)),
    (is_parting, lambda lot: (lot, (lot,))), (cheapest_lots, lambda lot: (lot, (1,) * len(lot))),
)


def partings(pairs):
    """All ways to part a list into groups."""
    if not pairs:
        yield []
        return
    for rest in partings(pairs[1:]):
        yield [[pairs[0]]] + rest
        for at in range(len(rest)):
            yield rest[:at] + [[pairs[0]] + rest[at]] + rest[at + 1:]


def plain_partings(serves, program, lot):
    """All PARTINGS of a LOT, each as it is told."""
    known, found = {}, []
    for parting in partings(list(lot)):
        groups = tuple(sorted(tuple(sorted(group)) for group in parting))
        for group in groups:
            if group not in known:
                known[group] = serves(program, group)
        if all(known[group] for group in groups):
            found.append(groups)
    return found


class Plain(unittest.TestCase):
    def test_five_in_a_ring(self):
        table = table_of(FIVE, "cell", FIVE_NAMES)
        self.assertEqual(table, tuple(sorted(
            (one, other) for one in FIVE_NAMES for other in FIVE_NAMES if one <= other
            and (FIVE_NAMES.index(other) - FIVE_NAMES.index(one)) % 5 not in (1, 4)
        )))
        self.assertEqual(len(fewest_lots(FIVE, "cell", FIVE_NAMES)), 3)
        self.assertEqual(len(none_share(FIVE, "cell", FIVE_NAMES)), 2)
        self.assertEqual(greatest_lots(FIVE, "cell", FIVE_NAMES), ((A, C), (A, D), (B, D), (B, E), (C, E)))
        for two in itertools.product([True, False], repeat=5):
            groups = [tuple(pair for pair, left in zip(FIVE_NAMES, two) if left is told) for told in (True, False)]
            thing = tuple(sorted(group for group in groups if group))
            self.assertFalse(is_parting(FIVE, "cell", FIVE_NAMES, thing))

    def test_the_empty_lot(self):
        for home in SERVES:
            for program in (FIVE, DEEP, TWICE):
                self.assertTrue(fits(program, home, ()))
                for call in (table_of, greatest_lots, fewest_lots, none_share):
                    self.assertEqual(call(program, home, ()), ())
                self.assertEqual(cheapest_lots(program, home, (), ()), ())
                self.assertTrue(is_parting(program, home, (), ()))
                self.assertFalse(is_parting(program, home, (), ((),)))
                self.assertFalse(is_parting(program, home, (), (((0, "r"),),)))

    def test_a_pair_that_does_not_share_with_itself(self):
        d, u = (1, "d"), (1, "u")
        self.assertFalse(share(DEEP, "cell", d, d))
        self.assertTrue(share(DEEP, "cell", u, u))
        self.assertFalse(share(DEEP, "cell", d, u))
        self.assertEqual(table_of(DEEP, "cell", (d, u)), ((u, u),))
        self.assertEqual(greatest_lots(DEEP, "cell", (d, u)), ((u,),))
        self.assertIsNone(fewest_lots(DEEP, "cell", (d, u)))
        self.assertIsNone(cheapest_lots(DEEP, "cell", (d, u), (1, 1)))
        self.assertFalse(is_parting(DEEP, "cell", (d, u), ((d,), (u,))))
        # With no other one: it is alone, however it goes with itself.
        self.assertEqual(none_share(DEEP, "cell", (d,)), (d,))
        self.assertEqual(none_share(DEEP, "cell", (d, u)), (d, u))
        self.assertEqual(fewest_lots(DEEP, "stack", (d, u)), ((d, u),))

    def test_sizes(self):
        call = lambda sizes: cheapest_lots(FIVE, "cell", FIVE_NAMES, sizes)
        self.assertEqual(call((0, 0, 0, 0, 0)), fewest_lots(FIVE, "cell", FIVE_NAMES))
        self.assertEqual(call((3, 3, 3, 3, 3)), fewest_lots(FIVE, "cell", FIVE_NAMES))
        self.assertEqual(call((8, 1, 8, 1, 1)), ((A, C), (B, D), (E,)))
        self.assertEqual(call((0, 9, 0, 0, 9)), ((A, C), (B, E), (D,)))
        for sizes in ((), (1, 1, 1, 1), (1,) * 6):
            self.assertEqual(error_told(call, sizes), ("Unfit",))

    def test_is_parting(self):
        good = ((A,), (B, D), (C, E))
        self.assertTrue(is_parting(FIVE, "cell", FIVE_NAMES, good))
        for thing in (
                ((B, D), (A,), (C, E)), ((A,), (D, B), (C, E)), ((A,), (B, D), (C,)), ((A,), (B, D), (C, E), (E,)),
                ((A,), (A,), (B, D), (C, E)), ((), (A,), (B, D), (C, E)), ((A, B), (C, E), (D,)),
                ((A,), (B, D), (C, E), ((0, "r"),)), ((A,), (B, D), (C, (0, "z"))), ((A,), (B, D), (C, (9, "e"))),
                ((A,), (B, D), (C, (False, "e"))), ([A], (B, D), (C, E)), [(A,), (B, D), (C, E)], (A, B, C, D, E),
                (("a",), (B, D), (C, E)), (((0, "a", 0),), (B, D), (C, E)), ((None,), (B, D), (C, E)), (FIVE_NAMES,),
                (((0, None),), (B, D), (C, E)), (), None, True, 5, "cell", ((A,), (B, D), (C, E, ("x", "y"))),
        ):
            self.assertFalse(is_parting(FIVE, "cell", FIVE_NAMES, thing), thing)
        self.assertTrue(is_parting(FIVE, "stack", FIVE_NAMES, (FIVE_NAMES,)))

    def test_errors_in_their_order(self):
        for call, rest in CALLS:
            told = lambda lot, home: error_told(call, TWICE, home, *rest(lot))
            self.assertEqual(told(((0, "zz"), (2, "a"), (7, "a")), "shelf"), ("NoProcedure", 2))
            self.assertEqual(told(((-1, "a"), (0, "zz")), "shelf"), ("NoProcedure", -1))
            self.assertEqual(told(((0, "a"), (1, "zz")), "shelf"), ("NoName", "a"))
            self.assertEqual(told(((0, "r"), (1, "zz")), "cell"), ("NoName", "zz"))
            for home in ("shelf", "round", "homes", "heap", ""):
                self.assertEqual(told(((0, "r"), (1, "a")), home), ("Unfit",))
            self.assertIsNone(told(((0, "r"), (1, "a")), "queue"))
        both = lambda one, other, home: error_told(share, TWICE, home, one, other)
        self.assertEqual(both((0, "zz"), (3, "a"), "shelf"), ("NoProcedure", 3))
        self.assertEqual(both((0, "r"), (0, "zz"), "shelf"), ("NoName", "zz"))
        self.assertEqual(both((0, "r"), (1, "a"), "shelf"), ("Unfit",))
        self.assertEqual(error_told(cheapest_lots, TWICE, "shelf", ((0, "zz"),), ()), ("NoName", "zz"))

    def test_too_many(self):
        wide = wide_program("abcde", "")
        lot = ((1, "a"), (1, "b"))
        for home in ("stack", "region", "queue", "order"):
            for call, rest in CALLS:
                with self.assertRaises(TooMany):
                    call(wide, home, *rest(lot))
            with self.assertRaises(TooMany):
                share(wide, home, *lot)
            self.assertFalse(is_parting(wide, home, lot, None))
            self.assertEqual(error_told(cheapest_lots, wide, home, lot, ()), ("Unfit",))
            # Also of a LOT of one pair, which shares with no other one; but () has no such LOT.
            for call, rest in CALLS:
                with self.assertRaises(TooMany):
                    call(wide, home, *rest(lot[:1]))
            for call, rest in CALLS:
                if call not in (fits, is_parting):
                    self.assertEqual(call(wide, home, *rest(())), ())
        for call, rest in CALLS:
            call(wide, "cell", *rest(lot))
        self.assertTrue(share(wide, "cell", *lot))


class ForAllPrograms(unittest.TestCase):
    def test_partings(self):
        for program, lot, _, _ in small_programs(range(200, 203), names=4):
            for home, serves in SERVES.items():
                told = {
                    (one, other): serves(program, tuple(sorted({one, other}))) for one in lot for other in lot
                }
                pairs = tuple((one, other) for one in lot for other in lot if one <= other and told[(one, other)])
                self.assertEqual(table_of(program, home, lot), pairs)
                self.assertEqual([share(program, home, *two) for two in told], list(told.values()))
                self.assertEqual(fits(program, home, lot), all(told.values()))
                self.assertEqual(fits(program, home, lot), serves(program, lot))
                groups = [group for many in range(len(lot) + 1) for group in itertools.combinations(lot, many)]
                good = [group for group in groups if all(told[(one, other)] for one in group for other in group)]
                great = sorted(
                    group for group in good if group
                    and not any(set(group) < set(other) for other in good)
                )
                self.assertEqual(greatest_lots(program, home, lot), tuple(great))
                apart = [
                    group for group in groups
                    if not any(told[two] for two in itertools.combinations(group, 2))
                ]
                self.assertEqual(none_share(program, home, lot), min(apart, key=lambda group: (-len(group), group)))
                self.look_at_partings(program, home, serves, lot)

    def look_at_partings(self, program, home, serves, lot):
        found = plain_partings(serves, program, lot)
        best = min(found, key=lambda groups: (len(groups), groups)) if found else None
        self.assertEqual(fewest_lots(program, home, lot), best)
        self.assertEqual(bool(found), all(serves(program, (pair,)) for pair in lot))
        chance = random.Random(len(found))
        for groups in found[:2]:
            self.assertTrue(is_parting(program, home, lot, groups))
        for most in (0, 1, 5):
            sizes = tuple(chance.randint(0, most) for _ in lot)
            cost = lambda groups: sum(max(sizes[lot.index(pair)] for pair in group) for group in groups)
            best = min(found, key=lambda groups: (cost(groups), len(groups), groups)) if found else None
            self.assertEqual(cheapest_lots(program, home, lot, sizes), best)

    def test_all_pairs_of_a_program(self):
        for program in (DEEP, TWICE):
            lot = pairs_of(program)
            for home, serves in SERVES.items():
                self.assertEqual(fits(program, home, lot), serves(program, lot))


if __name__ == "__main__":
    unittest.main()
