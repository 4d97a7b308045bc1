"""Point [9]: quick LOTS, PROFILES, and the pairs that spoil a home."""

import random
import unittest

from crossnest.entries import seats
from crossnest.errors import CanNot, Unfit
from crossnest.profiles import is_quick, profile_tree, profiles, profiles_of, quick_pairs
from crossnest.programs import pairs_of
from crossnest.trees import is_tree, nodes
from tests.plain import PlainRun, plain_trees
from tests.samples import A, BOTH, D, DEEP, LENT, ONCE, TWICE, wide_program
from tests.test_entries import visits_of
from tests.test_trees import clean_programs

HOMES = ("cell", "stack", "queue")
# The callee's x of the first visit is used in the second one; the start makes y between.
BETWEEN = (
    (((),), (("r",),), (((1,), ((
        ("go", 0), ("make", "y", ()), ("go", 0), ("make", "r", ("y",))),)),)),
    (((), ()), ((), ()), (((), ((("make", "x", ()),), (("make", "z", ("x",)),))),)),
)
# One RULE of the callee uses d, another one makes u: no TREE does both.
APART = (
    (((),), (("r",),), (((1,), ((
        ("make", (0, "d"), ()), ("go", 0), ("make", "r", ((0, "u"),))),)),)),
    ((("d",),), (("u",),), (
        ((), ((("make", "x", ("d",)), ("make", "w", ()), ("hand", "u", "w")),)),
        ((), ((("make", "u", ()),),)),
    )),
)


def plain_profiles(program, lot, seat, tree):
    run, found = visits_of(program, seat[0], tree, seat[1]), set()
    for at, event in enumerate(run.events):
        if event["pair"] in lot:
            found.add((event["pair"], event["turn"]))
            for use in run.users(at):
                found.add((event["pair"], event["turn"], run.events[use]["turn"]))
    return tuple(sorted(found))


def plain_pairs(program, lot, home, tree):
    """The pairs of pairs of which this RUN shows what spoils the home."""
    run, found = PlainRun(program, tree), set()
    values = [at for at, event in enumerate(run.events) if event["pair"] in lot]
    uses = {value: run.users(value) for value in values}
    for one in values:
        for two in values:
            if one < two and uses[one]:
                last, more = uses[one][-1], uses[two]
                spoils = {
                    "cell": two < last,
                    "stack": any(two < use < late for use in uses[one] for late in more),
                    "queue": any(use < last for use in more),
                }
                if spoils[home]:
                    found.add((run.events[one]["pair"], run.events[two]["pair"]))
    return found


class Quick(unittest.TestCase):
    def test_is_quick(self):
        self.assertTrue(is_quick(DEEP, ()))
        self.assertFalse(is_quick(LENT, ((1, "x"), (1, "y"))))
        row = (("make", (0, "x"), ()), ("go", 0), ("hand", "r", (0, "y")))
        program = ((((),), (("r",),), (((1,), (row,)),)), LENT[1])
        self.assertFalse(is_quick(program, ((1, "y"),)))
        self.assertTrue(is_quick(program, ((0, "r"),)))

    def test_unfit_comes_first(self):
        lot = ((1, "x"),)
        for call in (
                lambda: profiles_of(LENT, lot, (7, 7), (0, ())), lambda: profiles(LENT, lot),
                lambda: profile_tree(LENT, lot, (7, 7), ((1, "x"), 0)), lambda: quick_pairs(LENT, lot, "shelf"),
        ):
            with self.assertRaises(Unfit):
                call()
        for seat in ((0, 2), (1, 1), (2, 1), (-1, 1), (1, 0), (1, 3), (10 ** 6, 10 ** 6)):
            with self.assertRaises(Unfit):
                profiles_of(TWICE, A, seat, (0, ()))
            with self.assertRaises(Unfit):
                profile_tree(TWICE, A, list(seat), ((1, "a"), 0))
        for home in ("", "round", "Cell", "region", "order"):
            with self.assertRaises(CanNot):
                quick_pairs(TWICE, A, home)

    def test_no_bounds_of_ports(self):
        program = wide_program("abcde", "")
        lot = tuple((1, name) for name in "abcde")
        self.assertEqual(quick_pairs(program, lot, "cell"), ())
        self.assertEqual(profiles(program, lot)[0], ((0, 1), tuple((pair, 0) for pair in lot)))


class Profiles(unittest.TestCase):
    def test_visits(self):
        self.assertEqual(profiles(BETWEEN, ((0, "y"), (1, "x"))), (
            ((0, 1), (((0, "y"), 0), ((0, "y"), 0, 0), ((1, "x"), 0), ((1, "x"), 0, 0))),
            ((1, 2), (((1, "x"), 0), ((1, "x"), 0, 1))),
        ))
        self.assertEqual(profiles_of(BETWEEN, ((1, "x"),), (1, 2), (0, ())), (((1, "x"), 0), ((1, "x"), 0, 1)))

    def test_askings_count_nothing(self):
        self.assertEqual(profiles(ONCE, ((0, "r"),)), (((0, 1), (((0, "r"), 0),)),))
        self.assertEqual(profiles_of(ONCE, ((0, "r"),), (0, 1), (0, ())), (((0, "r"), 0),))

    def test_values_made_outside_have_none(self):
        self.assertEqual(profiles_of(DEEP, D, (1, 1), (0, ())), ())
        self.assertEqual(profiles_of(DEEP, D, (1, 1), (1, ((0, ()),))), (((1, "d"), 0), ((1, "d"), 0, 0)))

    def test_what_comes_to_a_word_by_hand_is_not_of_its_pair(self):
        # In one RULE u is made, in the other one something is handed to it.
        lot = ((1, "u"),)
        self.assertEqual(profiles_of(APART, lot, (0, 1), (0, ((0, ()),))), ())
        self.assertEqual(profile_tree(APART, lot, (0, 1), ((1, "u"), 0, 0)), (0, ((1, ()),)))

    def test_profile_tree_of_what_none_has(self):
        for profile in (((1, "d"), 0, 1), ((1, "d"), 1), ((1, "u"), 0), ((0, "r"), 0), ((9, "q"), 9, 9), ((1, "d"), -1)):
            self.assertIsNone(profile_tree(DEEP, D, (1, 1), profile), profile)
        self.assertEqual(profile_tree(DEEP, D, [1, 1], [[1, "d"], 0, 0]), (1, ((0, ()),)))

    def test_by_chance(self):
        chance = random.Random(11)
        for seed, program in clean_programs(range(120), procedures=4, rules=3, visits=3, callees=3, hands=0.15):
            quick = [pair for pair in pairs_of(program) if is_quick(program, (pair,))]
            lot = tuple(sorted(chance.sample(quick, min(len(quick), 4))))
            self.assertTrue(is_quick(program, lot))
            told = profiles(program, lot)
            self.assertEqual(tuple(seat for seat, _ in told), seats(program))
            for seat, found in told:
                self.look_at(program, lot, seat, found, seed)
            for home in HOMES:
                pairs = quick_pairs(program, lot, home)
                self.assertEqual(pairs, tuple(sorted(set(pairs))))
                for tree in plain_trees(program, 0, 5)[:30]:
                    self.assertLessEqual(plain_pairs(program, lot, home, tree), set(pairs), seed)

    def look_at(self, program, lot, seat, found, seed):
        trees, first = plain_trees(program, seat[0], 5), {}
        for tree in trees[:30]:
            mine = profiles_of(program, lot, seat, tree)
            self.assertEqual(mine, plain_profiles(program, lot, seat, tree), seed)
            for profile in mine:
                self.assertIn(profile, found)
                first.setdefault(profile, tree)
        for profile in found:
            tree = profile_tree(program, lot, seat, profile)
            self.assertTrue(is_tree(program, seat[0], tree))
            self.assertIn(profile, profiles_of(program, lot, seat, tree))
            if profile in first:
                self.assertEqual(tree, first[profile], seed)
            elif len(trees) <= 30:
                self.assertGreater(nodes(tree), 5)


class Pairs(unittest.TestCase):
    def test_small(self):
        lot = ((0, "y"), (1, "x"))
        self.assertEqual(quick_pairs(BETWEEN, lot, "cell"), (((1, "x"), (0, "y")),))
        self.assertEqual(quick_pairs(BETWEEN, lot, "stack"), (((1, "x"), (0, "y")),))
        self.assertEqual(quick_pairs(BETWEEN, lot, "queue"), ())
        self.assertEqual(quick_pairs(ONCE, ((0, "r"), (0, "x")), "cell"), ())
        self.assertEqual(quick_pairs(TWICE, (), "cell"), ())

    def test_no_tree_does_both(self):
        lot = ((1, "d"), (1, "u"))
        for home in HOMES:
            self.assertEqual(quick_pairs(APART, lot, home), ())
        # A RULE that does both, u being made ahead of the use of d.
        rule = ((), ((("make", "u", ()), ("make", "x", ("d",))),))
        program = (APART[0], (APART[1][0], APART[1][1], APART[1][2] + (rule,)))
        self.assertEqual(quick_pairs(program, lot, "cell"), (((1, "d"), (1, "u")),))
        self.assertEqual(quick_pairs(program, lot, "stack"), (((1, "d"), (1, "u")),))
        self.assertEqual(quick_pairs(program, lot, "queue"), ())

    def test_askings_count(self):
        row = (("make", "x", ()), ("make", "r", ()), ("make", "y", ("x",)))
        program = ((((),), (("r",),), (((), (row,)),)),)
        lot = ((0, "r"), (0, "x"), (0, "y"))
        self.assertEqual(quick_pairs(program, lot, "cell"), (((0, "r"), (0, "y")), ((0, "x"), (0, "r"))))
        self.assertEqual(quick_pairs(program, lot, "stack"), (((0, "x"), (0, "r")),))

    def test_a_start_that_is_called_is_not_asked(self):
        rules = (
            ((0,), ((("go", 0), ("make", "y", ()), ("make", "r", ("y",))),)), ((), ((("make", "r", ()),),)),
        )
        program = ((((),), (("r",),), rules),)
        self.assertEqual(quick_pairs(program, ((0, "r"), (0, "y")), "cell"), ())
        self.assertEqual(profiles_of(program, ((0, "r"),), (0, 1), (0, ((1, ()),))), (((0, "r"), 0),))

    def test_two_callees(self):
        taker = ((("d",),), (("u",),), (((), ((("make", "x", ("d",)), ("make", "u", ())),)),))
        given = (("make", (0, "d"), ()), ("make", (1, "d"), ()))
        d, u = (1, "d"), (1, "u")

        def pairs(home, goes, uses=()):
            row = given + tuple(("go", place) for place in goes)
            row += tuple(("make", name, ((place, "u"),)) for name, place in uses) + (("make", "r", ()),)
            return quick_pairs(((((),), (("r",),), (((1, 1), (row,)),)), taker), (d, u), home)

        self.assertEqual(pairs("stack", (0, 1)), ((d, d),))
        self.assertEqual(pairs("queue", (0, 1)), ())
        self.assertEqual((pairs("stack", (1, 0)), pairs("queue", (1, 0))), ((), ((d, d),)))
        self.assertEqual(pairs("cell", (0, 1)), ((d, d), (d, u)))
        self.assertEqual(pairs("stack", (0, 1), (("p", 0), ("q", 1))), ((d, d), (d, u), (u, u)))
        self.assertEqual(pairs("queue", (0, 1), (("p", 1), ("q", 0))), ((u, u),))
        self.assertEqual(pairs("cell", (0, 1), (("p", 0), ("q", 1))), ((d, d), (d, u), (u, u)))

    def test_one_event_does_not_count_twice(self):
        # y is made out of x: the use of x is no later EVENT than the make of y.
        row = (("make", "x", ()), ("make", "y", ("x",)), ("make", "r", ("y", "y")))
        program = ((((),), (("r",),), (((), (row,)),)),)
        for home in HOMES:
            self.assertEqual(quick_pairs(program, pairs_of(program), home), ())
        together = (("make", "x", ()), ("make", "y", ()), ("make", "r", ("x", "y")))
        program = ((((),), (("r",),), (((), (together,)),)),)
        self.assertEqual(quick_pairs(program, pairs_of(program), "cell"), (((0, "x"), (0, "y")),))
        self.assertEqual(quick_pairs(program, pairs_of(program), "stack"), ())
        self.assertEqual(quick_pairs(program, pairs_of(program), "queue"), ())

    def test_twice(self):
        self.assertEqual(plain_pairs(TWICE, A, "stack", BOTH), {((1, "a"), (1, "a"))})
        self.assertEqual(quick_pairs(TWICE, pairs_of(TWICE), "queue"), ())

    def test_as_the_runs_of_small_trees_tell(self):
        # Without rings all TREES are few.
        for seed, program in clean_programs(range(250), procedures=3, rules=2, visits=3, hands=0.1):
            trees = plain_trees(program, 0, 9)
            if not trees or len(trees) > 60 or plain_trees(program, 0, 14)[len(trees):]:
                continue
            lot = tuple(pair for pair in pairs_of(program) if is_quick(program, (pair,)))[:8]
            for home in HOMES:
                told = set()
                for tree in trees:
                    told |= plain_pairs(program, lot, home, tree)
                self.assertEqual(quick_pairs(program, lot, home), tuple(sorted(told)), seed)


if __name__ == "__main__":
    unittest.main()
