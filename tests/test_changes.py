"""Point [20]: programs that are changed."""

import unittest

from crossnest.changes import (
    inlined, new_names, renamed, split_name, tree_inlined, turned, with_rule, without_rule,
)
from crossnest.errors import CanNot, Unfit
from crossnest.lots import fits
from crossnest.programs import is_clean, is_program, names_of, pairs_of
from crossnest.trees import is_tree
from tests.plain import PlainRun, plain_trees
from tests.samples import (
    BOTH, CHAIN, D, DEEP, FIVE, LEAF, LENT, NODE, ONCE, TOP, TWICE, wide_program,
)
from tests.small import error_told, small_programs
from tests.test_rounds import make, row_program

GO = ("go", 0)
SHALLOW = (TOP, (DEEP[1][0], DEEP[1][1], (LEAF,)))
# A callee that makes a value for its own callee in a visit that is never gone to.
EARLY = (
    (((),), (("r",),), (((1,), ((GO, make("r", (0, "a"))),)),)),
    (((), ()), (("a",), ("b",)), (((2,), ((make("a"), make((0, "i"), "a")), (GO, make("b"),))),)),
    ((("i",),), ((),), (((), ((make("z", "i"),),)),)),
)
# A callee that goes to one of its two callees in its second visit alone.
LATER = (
    (((),), (("r",),), (((1,), ((GO, make("r", (0, "a"))),)),)),
    (((), ()), (("a",), ("b",)), (((2, 2), ((make((1, "i")), ("go", 1), make("a")), (make((0, "i")), GO, make("b")))),)),
    EARLY[2],
)
LETTERS = "abcdefghijklmnopqrstuvwxyz"


def told_by(run):
    """What each EVENT of a RUN does: made of what, or asked for, by numbers of values."""
    found = []
    for event in run.events:
        values = [run.at[slot] for slot in event["slots"]]
        if event["step"][0] == "ask":
            values = sorted(values)
        found.append((event["step"][0], values, run.at[event["sets"]] if "sets" in event else None))
    return found


def inlinings(program):
    """All (procedure, rule, place) of a PROGRAM that can be inlined, each with what comes of it."""
    for at, (_, _, rules) in enumerate(program):
        for rule, (callees, _) in enumerate(rules):
            for place in range(len(callees)):
                try:
                    yield (at, rule, place), inlined(program, at, rule, place)
                except CanNot:
                    pass


class Plain(unittest.TestCase):
    def test_rules_more_and_less(self):
        self.assertEqual(with_rule(SHALLOW, 1, NODE), DEEP)
        self.assertEqual(with_rule(SHALLOW, 1, [[1], [list(NODE[1][0])]]), DEEP)
        self.assertEqual(without_rule(DEEP, 1, 1), SHALLOW)
        self.assertEqual(without_rule(DEEP, 1, 0)[1][2], (NODE,))
        self.assertFalse(is_clean(without_rule(DEEP, 1, 0)))
        for rule in (
                ((), ((make("u", "x"),),)), ((), ()), (), None, ((), ((),)), ((2,), ((GO, make("u")),)), LEAF + ((),),
                ((1,), ((make("u"),),)), ((), ((make("u"), make("u")),)), "rule", 7, True, ((), (make("u"),)),
        ):
            self.assertEqual(error_told(with_rule, SHALLOW, 1, rule), ("Unfit",))
        self.assertEqual(error_told(with_rule, SHALLOW, 2, None), ("NoProcedure", 2))
        self.assertEqual(error_told(without_rule, SHALLOW, 1, 0), ("CanNot",))
        self.assertEqual(error_told(without_rule, SHALLOW, 1, 1), ("NoRule", 1))
        self.assertEqual(error_told(without_rule, SHALLOW, -1, 5), ("NoProcedure", -1))
        # A RULE need not be fruitful for that.
        self.assertEqual(len(with_rule(ONCE, 0, ((0,), ((GO, make("r", (0, "r"))),)))[0][2]), 2)

    def test_renamed(self):
        # d and u are called in both PROCEDURES; the sets ascend still.
        told = renamed(DEEP, 1, "d", "zz")
        self.assertEqual(told[1][0], (("zz",),))
        self.assertEqual(told[0][2][0][1][0][0], make((0, "zz")))
        self.assertEqual(told[1][2][1][1][0], (make((0, "zz"), "zz"), GO, make("u", "zz", (0, "u"))))
        wide = wide_program("abc", "")
        self.assertEqual(renamed(wide, 1, "a", "x")[1][0], (("b", "c", "x"),))
        # A NAME of another PROCEDURE stays.
        self.assertEqual(renamed(TWICE, 0, "r", "a")[1], TWICE[1])
        self.assertEqual(renamed(TWICE, 1, "a", "r")[0], TWICE[0])
        for other in ("d", "u"):
            for name in ("d", "u"):
                self.assertEqual(error_told(renamed, DEEP, 1, name, other), ("Unfit",))
        self.assertEqual(error_told(renamed, DEEP, 1, "x", "d"), ("NoName", "x"))
        self.assertEqual(error_told(renamed, DEEP, 2, "x", "d"), ("NoProcedure", 2))
        self.assertEqual(renamed(renamed(DEEP, 1, "u", "v"), 1, "v", "u"), DEEP)
        # A local that several RULES set is renamed in each of them.
        self.assertNotIn("'b'", repr(renamed(FIVE, 0, "b", "zz")))

    def test_split_name(self):
        told = split_name(FIVE, 0, 1, "b", "z")
        self.assertEqual(told[0][2][1][1][0], (make("z"), make("c"), make("r", "z", "c")))
        self.assertEqual(told[0][2][0], FIVE[0][2][0])
        self.assertEqual(names_of(told, 0), ("a", "b", "c", "d", "e", "r", "z"))
        for rule, name, other in ((1, "a", "z"), (1, "r", "z"), (1, "b", "a"), (1, "b", "b"), (0, "c", "z"), (1, "a", "a")):
            self.assertEqual(error_told(split_name, FIVE, 0, rule, name, other), ("Unfit",))
        self.assertEqual(error_told(split_name, FIVE, 0, 5, "zz", "a"), ("NoRule", 5))
        self.assertEqual(error_told(split_name, FIVE, 0, 1, "zz", "a"), ("NoName", "zz"))
        self.assertEqual(error_told(split_name, FIVE, 1, 9, "zz", "a"), ("NoProcedure", 1))
        self.assertEqual(error_told(split_name, DEEP, 1, 1, "d", "x"), ("Unfit",))
        self.assertEqual(error_told(split_name, DEEP, 1, 1, "u", "x"), ("Unfit",))

    def test_inlined_into_itself(self):
        # The callee's RULES are those of DEEP; its NAMES are new ones though they are its own.
        told = inlined(DEEP, 1, 1, 0)
        self.assertEqual(told[1][2][0], LEAF)
        self.assertEqual(told[1][2][1], ((), ((make("a", "d"), make("b", "a"), make("u", "d", "b")),)))
        self.assertEqual(told[1][2][2], ((1,), (
            (make("a", "d"), make((0, "d"), "a"), GO, make("b", "a", (0, "u")), make("u", "d", "b")),
        )))
        self.assertEqual(new_names(DEEP, 1, 1, 0), (("d", "a"), ("u", "b")))
        four = (0, ((1, ((1, ((1, ((0, ()),)),)),)),))
        self.assertEqual(tree_inlined(DEEP, 1, 1, 0, four), (0, ((2, ((1, ()),)),)))
        self.assertEqual(tree_inlined(DEEP, 1, 1, 0, CHAIN), (0, ((1, ()),)))

    def test_inlined_in_several_visits_beside_another_one(self):
        told = inlined(TWICE, 0, 0, 0)
        self.assertEqual(told[0][2][0], ((1,), (
            (make("a"), ("go", 0), make("b", "a"), ("go", 0), make("r", "b", (0, "u"))),
        )))
        self.assertEqual(inlined(TWICE, 0, 0, 1)[0][2][0], ((1,), (
            (("go", 0), make("a"), ("go", 0), make("b", "a"), make("r", (0, "u"), "b")),
        )))
        self.assertEqual(tree_inlined(TWICE, 0, 0, 0, BOTH), (0, ((0, ()),)))
        twice = inlined(told, 0, 0, 0)
        self.assertEqual(twice[0][2][0][0], ())
        self.assertEqual(new_names(told, 0, 0, 0), (("a", "c"), ("u", "d")))

    def test_rows_that_are_not_put_in(self):
        # The callee of LATER's callee at place 0 is gone to in a visit that is not put in.
        told = inlined(LATER, 0, 0, 0)
        self.assertEqual(told[0][2][0], ((2,), ((make((0, "i")), ("go", 0), make("a"), make("r", "a")),)))
        self.assertEqual(new_names(LATER, 0, 0, 0), (("a", "a"), ("b", "b")))
        self.assertEqual(tree_inlined(LATER, 0, 0, 0, (0, ((0, ((0, ()), (0, ()))),))), (0, ((0, ()),)))
        # A row put in has a WORD of a callee to which none goes.
        for call, rest in ((inlined, ()), (tree_inlined, (((0, ((0, ((0, ()),)),))),))):
            self.assertEqual(error_told(call, EARLY, 0, 0, 0, *rest), ("CanNot",))
        self.assertEqual(new_names(EARLY, 0, 0, 0), (("a", "a"), ("b", "b")))

    def test_more_callees_than_three(self):
        leaf = (((),), ((),), (((), ((),)),))
        three = (((),), ((),), (((2, 2, 2), ((GO, ("go", 1), ("go", 2)),)), ((), ((),))))
        two = (((),), (("r",),), (((1, 1), ((GO, ("go", 1), make("r")),)),))
        one = (((),), (("r",),), (((1,), ((GO, make("r")),)),))
        self.assertEqual(error_told(inlined, (two, three, leaf), 0, 0, 0), ("CanNot",))
        self.assertEqual(error_told(tree_inlined, (two, three, leaf), 0, 0, 1, (0, ((1, ()), (1, ())))), ("CanNot",))
        found = inlined((one, three, leaf), 0, 0, 0)
        self.assertEqual([rule[0] for rule in found[0][2]], [(2, 2, 2), ()])
        self.assertEqual(found[0][2][0][1], ((GO, ("go", 1), ("go", 2), make("r")),))

    def test_places_move(self):
        leaf = lambda name: (((),), ((name,),), (((), ((make(name),),)),))
        mid = (((),), (("m",),), (((2, 1), ((("go", 1), GO, make("m", (0, "p"), (1, "q"))),)),))
        top = (((),), (("r",),), (((3, 1), ((("go", 1), GO, make("r", (1, "q"), (0, "m"))),)),))
        program = (top, leaf("q"), leaf("p"), mid)
        self.assertTrue(is_program(program))
        # Those of the RULE without place 0, then those of the callee in their order.
        self.assertEqual(inlined(program, 0, 0, 0)[0][2][0], ((1, 2, 1), (
            (("go", 0), ("go", 2), ("go", 1), make("a", (1, "p"), (2, "q")), make("r", (0, "q"), "a")),
        )))
        tree = (0, ((0, ((0, ()), (0, ()))), (0, ())))
        self.assertEqual(tree_inlined(program, 0, 0, 0, tree), (0, ((0, ()), (0, ()), (0, ()))))
        self.assertEqual(inlined(program, 0, 0, 1)[0][2][0], ((3,), (
            (make("a"), GO, make("r", "a", (0, "m"))),
        )))

    def test_new_names_past_z(self):
        # The PROCEDURE has all single letters but q: then come aa, ab.
        steps = [make(name) for name in LETTERS if name != "q"]
        program = (
            (((),), (("qq",),), (((1,), (tuple(steps) + (GO, make("qq", (0, "c"))),)),)),
            (((),), (("c",),), (((), ((make("a"), make("b"), make("c", "a", "b")),)),)),
        )
        self.assertEqual(new_names(program, 0, 0, 0), (("a", "q"), ("b", "aa"), ("c", "ab")))
        self.assertEqual(inlined(program, 0, 0, 0)[0][2][0][1][0][25:], (
            make("q"), make("aa"), make("ab", "q", "aa"), make("qq", "ab"),
        ))
        taken = (renamed(program, 0, "qq", "aa")[0],) + program[1:]
        self.assertEqual(new_names(taken, 0, 0, 0), (("a", "q"), ("b", "ab"), ("c", "ac")))

    def test_a_rule_without_steps_and_a_callee_with_several(self):
        leaf = (((),), ((),), (((), ((),)), ((), ((make("x"),),)), ((), ((),))))
        top = (((),), ((),), (((), ((),)), ((1, 1), ((GO, ("go", 1)),)), ((), ((make("y"),),))))
        program = (top, leaf)
        self.assertTrue(is_program(program))
        found = inlined(program, 0, 1, 0)
        self.assertEqual(found[0][2], (
            ((), ((),)), ((1,), ((GO,),)), ((1,), ((make("a"), GO),)), ((1,), ((GO,),)), ((), ((make("y"),),)),
        ))
        self.assertEqual(tree_inlined(program, 0, 1, 0, (1, ((2, ()), (1, ())))), (3, ((1, ()),)))
        self.assertEqual(tree_inlined(program, 0, 1, 0, (2, ())), (4, ()))
        self.assertEqual(tree_inlined(program, 0, 1, 0, (0, ())), (0, ()))

    def test_errors_in_their_order(self):
        for call, rest in ((inlined, ()), (new_names, ()), (tree_inlined, (CHAIN,))):
            self.assertEqual(error_told(call, DEEP, 2, 9, 9, *rest), ("NoProcedure", 2))
            self.assertEqual(error_told(call, DEEP, 1, 2, 9, *rest), ("NoRule", 2))
            self.assertEqual(error_told(call, DEEP, 1, -1, 9, *rest), ("NoRule", -1))
            for place in (-1, 1, 10 ** 6):
                self.assertEqual(error_told(call, DEEP, 0, 0, place, *rest), ("Unfit",))
            self.assertEqual(error_told(call, DEEP, 1, 0, 0, *rest), ("Unfit",))
            # There is no such place: that comes ahead of what can not be.
            self.assertEqual(error_told(call, EARLY, 0, 0, 1, *rest), ("Unfit",))

    def test_deep_trees(self):
        tree = (0, ())
        for _ in range(2000):
            tree = (1, (tree,))
        tree = tree_inlined(DEEP, 1, 1, 0, (0, (tree,)))
        many = 0
        while tree[1]:
            tree, many = tree[1][0], many + 1
        self.assertEqual(many, 1001)

    def test_turned(self):
        lots = (D, ((1, "u"),), (), D, ((0, "r"), (1, "d")))
        self.assertEqual(turned(SHALLOW, DEEP, "cell", lots), (D, D, ((0, "r"), (1, "d"))))
        self.assertEqual(turned(DEEP, SHALLOW, "cell", lots), turned(SHALLOW, DEEP, "cell", lots))
        self.assertEqual(turned(DEEP, DEEP, "cell", lots), ())
        self.assertEqual(turned(SHALLOW, DEEP, "stack", lots), ())
        self.assertEqual(turned(SHALLOW, DEEP, "cell", ()), ())
        for home in ("shelf", "round", "heap"):
            for some in (lots, ()):
                self.assertEqual(error_told(turned, SHALLOW, DEEP, home, some), ("Unfit",))
        wide, thin = wide_program("abcde", ""), wide_program("abcd", "")
        for one, other in ((wide, thin), (thin, wide), (wide, wide)):
            for home in ("stack", "queue", "region", "order"):
                self.assertEqual(error_told(turned, one, other, home, (((1, "a"),),)), ("TooMany",))
            self.assertEqual(turned(one, other, "cell", (((1, "a"),),)), ())
        self.assertEqual(turned(thin, thin, "stack", (((1, "a"),),)), ())


class ForAllPrograms(unittest.TestCase):
    def test_runs_of_what_is_inlined(self):
        many, several = 0, 0
        for program, _, rows, most in small_programs(range(900, 912)):
            for (at, rule, place), found in inlinings(program):
                many += 1
                several += len(program[program[at][2][rule][0][place]][2]) > 1
                self.assertTrue(is_program(found))
                images = set()
                for tree, run in rows:
                    image = tree_inlined(program, at, rule, place, tree)
                    self.assertTrue(is_tree(found, 0, image))
                    self.assertEqual(told_by(PlainRun(found, image)), told_by(run))
                    images.add(image)
                # A node stands for two at the most, and for what is left out with it.
                short = max(size for size in range(most + 1) if 3 * size <= most)
                self.assertLessEqual(set(plain_trees(found, 0, short)), images | {None})
        self.assertGreater(many, 100)
        self.assertGreater(several, 40)

    def test_lots_of_what_is_inlined(self):
        many = 0
        for program, lot, _, _ in small_programs(range(912, 918), names=3):
            for (at, rule, place), found in list(inlinings(program))[:3]:
                callee = program[at][2][rule][0][place]
                names = dict(new_names(program, at, rule, place))
                pairs, told = pairs_of(found), set(lot)
                told |= {(at, names[name]) for number, name in lot if number == callee}
                other = tuple(sorted(told & set(pairs)))
                for home in ("cell", "stack", "queue"):
                    many += 1
                    self.assertEqual(fits(program, home, lot), fits(found, home, other))
        self.assertGreater(many, 50)

    def test_other_names(self):
        for program, lot, rows, _ in small_programs(range(920, 924)):
            for at, name in pairs_of(program):
                told = renamed(program, at, name, "zz")
                self.assertTrue(is_program(told))
                for tree, run in rows[:4]:
                    self.assertEqual(told_by(PlainRun(told, tree)), told_by(run))
                other = tuple(sorted((at, "zz") if pair == (at, name) else pair for pair in lot))
                for home in ("cell", "queue"):
                    self.assertEqual(fits(program, home, lot), fits(told, home, other))
                for rule in range(len(program[at][2])):
                    self.look_at_split(program, lot, rows, (at, name), rule)

    def look_at_split(self, program, lot, rows, pair, rule):
        try:
            told = split_name(program, pair[0], rule, pair[1], "zz")
        except Unfit:
            return
        for tree, run in rows[:4]:
            self.assertEqual(told_by(PlainRun(told, tree)), told_by(run))
        other = set(lot)
        if pair in lot:
            other |= {(pair[0], "zz")}
        other = tuple(sorted(other & set(pairs_of(told))))
        for home in ("cell", "stack"):
            self.assertEqual(fits(program, home, lot), fits(told, home, other))

    def test_a_rule_more_never_helps(self):
        many = 0
        for program, lot, _, _ in small_programs(range(930, 936)):
            for at, (_, _, rules) in enumerate(program):
                for rule in range(len(rules)):
                    if len(rules) == 1:
                        continue
                    less = without_rule(program, at, rule)
                    if not is_clean(less) or not set(lot) <= set(pairs_of(less)):
                        continue
                    for home in ("cell", "stack", "queue"):
                        many += 1
                        if not fits(less, home, lot):
                            self.assertFalse(fits(program, home, lot))
        self.assertGreater(many, 30)


if __name__ == "__main__":
    unittest.main()
