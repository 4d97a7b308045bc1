"""Point [4], and what [3] calls PROGRAMS: shapes, soundness, what is reached, makers and readers."""

import unittest

from crossnest.errors import CanNot, NoName, NoProcedure
from crossnest.programs import (
    calls, fault, fruitful, is_clean, is_draft, is_program, makers, names_of, pairs_of, reached,
    readers, rings, trimmed,
)
from crossnest.trees import trees_of
from tests.plain import made_program, plain_trees
from tests.samples import DEEP, ENDLESS, LEAF, LENT, NODE, ONCE, TOP, TWICE


def one(rule, outs=("r",)):
    """A PROGRAM with just this RULE, and one visit."""
    return ((((),), (outs,), (rule,)),)


def alone(*row):
    """A draft with one RULE of one row, without callees."""
    return one(((), (tuple(row),)))


def calling(row, callees=(1,), ins=(("d",),), outs=(("u",),), rows=None):
    """A draft whose start has this row, with a callee with these INS and OUTS."""
    made = tuple(tuple(("make", name, ()) for name in names) for names in outs)
    return (((),), (("r",),), ((callees, (tuple(row),)),)), (ins, outs, (((), rows or made),))


MAKE_R = ("make", "r", ())


class Shapes(unittest.TestCase):
    def test_names(self):
        for name in ("a", "z", "abcdefgh", "zzzzzzzz"):
            self.assertTrue(is_program(alone(("make", name, ()), MAKE_R)), name)
        for name in ("", "abcdefghi", "A", "a1", "_", "a b", "\u00e4", "a\n", "`", "{", 0, None, True, ("a",)):
            self.assertFalse(is_draft(alone(("make", name, ()), MAKE_R)), name)

    def test_visits(self):
        def with_visits(many):
            rows = tuple((("make", name, ()),) for name in "abcd"[:many])
            return (((),) * many, tuple((name,) for name in "abcd"[:many]), (((), rows),)),

        self.assertEqual([is_program(with_visits(many)) for many in range(5)], [False, True, True, True, False])

    def test_ports(self):
        inner = (((), ((),)),)
        start = (((),), ((),), (((), ((),)),))
        good = [(("a", "b"),), (("c",),)], [((),), ((),)]
        for ins, outs in good:
            self.assertTrue(is_draft((start, (ins, outs, inner))))
        bad = [
            ((("b", "a"),), ((),)), ((("a", "a"),), ((),)), ((("a",),), (("a",),)), ((("a",), ("a",)), ((), ())),
            (("a",), ((),)), ((("a",),), ((), ())), ((), ()), ([("a",)], ((),)), ((["a"],), ((),)),
            (((1,),), ((),)), ((("a",),), "b"), (None, ((),)),
        ]
        for ins, outs in bad:
            rows = ((),) * len(outs) if isinstance(outs, tuple) else ((),)
            self.assertFalse(is_draft((start, (ins, outs, (((), rows),)))), (ins, outs))

    def test_the_start_has_no_ins(self):
        self.assertFalse(is_draft(((("a",),), (("r",),), (((), ((MAKE_R,),)),))))
        self.assertFalse(is_draft((((("a",),), (("r",),), (((), ((MAKE_R,),)),)),)))

    def test_rules(self):
        self.assertFalse(is_draft(((((),), (("r",),), ()),)))
        self.assertFalse(is_draft(()))
        for rule in (
                ((), ()), ((), ((), ())), ((), ((MAKE_R,),), ()), ((),), (None, ((MAKE_R,),)), ((1,), ((MAKE_R,),)),
                ((-1,), ((MAKE_R,),)), ((True,), ((MAKE_R,),)), ((False,), ((MAKE_R,),)), ([], ((MAKE_R,),)),
                ((), [(MAKE_R,)]), ((), ([MAKE_R],)), ((0, 0, 0, 0), ((MAKE_R,),)), (("0",), ((MAKE_R,),)),
        ):
            self.assertFalse(is_draft(one(rule)), rule)
        self.assertTrue(is_draft(one(((0, 0, 0), ((MAKE_R,),)))))

    def test_steps(self):
        good = [
            ("make", "r", ()), ("make", "r", ("x", "x", (0, "u"))), ("make", (0, "d"), ()), ("make", (0, "u"), ()),
            ("hand", "r", "x"), ("hand", (0, "d"), (0, "d")), ("go", 0),
        ]
        for step in good:
            self.assertTrue(is_draft(calling([step])), step)
        bad = [
            (), ("go",), ("go", 1), ("go", -1), ("go", True), ("go", False), ("go", "0"), ("go", 0, 0), ("make",),
            ("make", "r"), ("make", "r", "x"), ("make", "r", ["x"]), ("make", "r", ("x",), ()), ("make", "r", (1,)),
            ("make", ("r",), ()), ("make", (1, "d"), ()), ("make", (-1, "d"), ()), ("make", (False, "d"), ()),
            ("make", (0, "x"), ()), ("make", (0, "d", 0), ()), ("make", [0, "d"], ()), ("make", (0, 0), ()),
            ("make", ("d", 0), ()), ("make", None, ()), ("hand", "r"), ("hand", "r", ("x",)), ("hand", "r", ()),
            ("hand", "r", (0, "x")), ("take", "r", ()), (0, "r", ()), ("Go", 0), (None, 0), "go", None, 3, ["go", 0],
        ]
        for step in bad:
            self.assertFalse(is_draft(calling([step])), step)
            self.assertFalse(is_program(calling([step])), step)

    def test_no_bounds(self):
        many = tuple("".join((one_, two)) for one_ in "abcdefghij" for two in "abcdefghij")
        row = tuple(("make", name, ()) for name in many) + (MAKE_R,)
        self.assertTrue(is_program(alone(*row)))
        start = one(((1,), ((("go", 0), MAKE_R),)))
        self.assertTrue(is_program(start + (((((),), ((),), (((), ((),)),) * 300)),) * 300))

    def test_places_of_a_rule(self):
        wrong = calling([("make", (0, "d"), ()), ("go", 1), MAKE_R])
        self.assertFalse(is_draft(wrong))
        right = calling([("make", (1, "d"), ()), ("go", 1), MAKE_R], callees=(0, 1))
        self.assertTrue(is_draft(right))
        self.assertEqual(fault(right), (0, 0, 0, 3))


class Faults(unittest.TestCase):
    def check(self, draft, told):
        self.assertTrue(is_draft(draft))
        self.assertEqual(fault(draft), told)
        self.assertIs(is_program(draft), told is None)

    def test_words_are_set_once(self):
        self.check(alone(("make", "x", ()), ("make", "x", ()), MAKE_R), (0, 0, 0, 1))
        self.check(alone(("make", "x", ()), ("hand", "x", "x"), MAKE_R), (0, 0, 0, 1))
        self.check(alone(MAKE_R, ("hand", "r", "r")), (0, 0, 0, 1))
        twice = [("make", (0, "d"), ()), ("make", (0, "d"), ()), ("go", 0), MAKE_R]
        self.check(calling(twice), (0, 0, 0, 1))

    def test_values_are_read_behind_their_make(self):
        self.check(alone(("make", "r", ("x",)), ("make", "x", ())), (0, 0, 0, 0))
        self.check(alone(("make", "x", ("x",)), MAKE_R), (0, 0, 0, 0))
        self.check(alone(("hand", "r", "x")), (0, 0, 0, 0))
        self.check(alone(("hand", "r", "r")), (0, 0, 0, 0))
        self.check(alone(("make", "x", ()), ("hand", "y", "x"), ("make", "r", ("y", "x"))), None)

    def test_outs_are_set_at_the_end_of_their_row(self):
        self.check(alone(), (0, 0, 0, 0))
        self.check(alone(("make", "x", ())), (0, 0, 0, 1))
        late = ((((), ()), (("a",), ("b",)), (((), ((("make", "a", ()),), ())),)),)
        self.check(late, (0, 0, 1, 0))
        early = ((((), ()), (("a",), ("b",)), (((), ((("make", "a", ()), ("make", "b", ())), ())),)),)
        self.check(early, (0, 0, 0, 1))
        behind = ((((), ()), (("a",), ("b",)), (((), ((), (("make", "a", ()), ("make", "b", ())))),)),)
        self.check(behind, (0, 0, 0, 0))

    def test_an_own_in_is_not_set(self):
        self.check(calling([("make", (0, "d"), ()), ("go", 0), MAKE_R], rows=((("make", "d", ()),),)), (1, 0, 0, 0))

    def test_ins_of_this_visit_or_an_earlier_one(self):
        go = [("make", (0, "a"), ()), ("go", 0), ("make", (0, "b"), ()), ("go", 0), MAKE_R]
        ins, outs = (("a",), ("b",)), ((), ())
        good = ((("make", "x", ("a",)),), (("make", "y", ("a", "b")),))
        self.check(calling(go, ins=ins, outs=outs, rows=good), None)
        bad = ((("make", "x", ("b",)),), ())
        self.check(calling(go, ins=ins, outs=outs, rows=bad), (1, 0, 0, 0))

    def test_ins_of_the_next_visit_alone_are_set(self):
        ins, outs = (("a",), ("b",)), ((), ())
        self.check(calling([("make", (0, "b"), ())], ins=ins, outs=outs), (0, 0, 0, 0))
        late = [("make", (0, "a"), ()), ("go", 0), ("make", (0, "a"), ())]
        self.check(calling(late, ins=ins, outs=outs), (0, 0, 0, 2))
        done = [("make", (0, "d"), ()), ("go", 0), ("make", (0, "d"), ())]
        self.check(calling(done), (0, 0, 0, 2))
        self.check(calling([("make", (0, "u"), ())]), (0, 0, 0, 0))

    def test_outs_of_a_callee_that_was_gone_to(self):
        self.check(calling([("make", (0, "d"), ()), ("make", "r", ((0, "u"),)), ("go", 0)]), (0, 0, 0, 1))
        self.check(calling([("make", (0, "d"), ()), ("go", 0), ("make", "r", ((0, "u"), (0, "d")))]), None)
        two = [("go", 0), ("make", "r", ((0, "v"),)), ("go", 0)]
        self.check(calling(two, ins=((), ()), outs=(("u",), ("v",))), (0, 0, 0, 1))

    def test_goes(self):
        self.check(calling([("go", 0), MAKE_R]), (0, 0, 0, 0))
        self.check(calling([("make", (0, "d"), ()), ("go", 0), ("go", 0), MAKE_R]), (0, 0, 0, 2))
        self.check(calling([("make", (0, "d"), ()), MAKE_R]), (0, 0, 0, 2))
        self.check(calling([MAKE_R]), (0, 0, 0, 1))
        once = calling([("go", 0), MAKE_R], ins=((), ()), outs=((), ("u",)))
        self.check(once, None)

    def test_a_callee_never_gone_to_is_told_behind_the_last_row(self):
        start = (((), ()), ((), ("r",)), (((1,), ((), (MAKE_R,))),))
        self.check((start, (((),), ((),), (((), ((),)),))), (0, 0, 1, 1))

    def test_an_out_is_told_ahead_of_a_callee(self):
        self.check(calling([("make", (0, "d"), ())]), (0, 0, 0, 1))

    def test_the_first_rule_of_the_first_procedure(self):
        bad = ((), ((("make", "u", ("x",)),),))
        draft = (TOP, ((("d",),), (("u",),), (LEAF, bad, bad)))
        self.check(draft, (1, 1, 0, 0))
        self.check((ONCE[0],) + (draft[1],), (1, 1, 0, 0))
        self.check(one(((), ((),))) + (draft[1],), (0, 0, 0, 0))

    def test_programs_made_by_chance(self):
        for seed in range(300):
            program = made_program(seed, visits=3, callees=3)
            self.assertIsNone(fault(program))
            self.assertTrue(is_program(program))


class Reaching(unittest.TestCase):
    def test_rules_that_never_end(self):
        self.assertEqual(fruitful(ENDLESS), ())
        self.assertEqual(reached(ENDLESS), (0,))
        self.assertFalse(is_clean(ENDLESS))
        with self.assertRaises(CanNot):
            trimmed(ENDLESS)

    def test_a_rule_that_never_ends_beside_one_that_does(self):
        program = (TOP, DEEP[1], ((("d",),), (("u",),), (
            ((2,), ((("make", (0, "d"), ()), ("go", 0), ("make", "u", ())),)),
        )))
        self.assertEqual(fruitful(program), ((0, 0), (1, 0), (1, 1)))
        self.assertEqual(reached(program), (0, 1))
        self.assertFalse(is_clean(program))
        self.assertEqual(trimmed(program), DEEP)

    def test_a_procedure_is_not_reached_by_a_rule_that_never_ends(self):
        loop = ((2, 1), ((("make", (0, "d"), ()), ("go", 0), ("make", (1, "d"), ()), ("go", 1), ("make", "u", ())),))
        never = ((("d",),), (("u",),), (((3,), ((("make", (0, "d"), ()), ("go", 0), ("make", "u", ())),)),))
        endless = ((("d",),), (("u",),), (((3,), ((("make", (0, "d"), ()), ("go", 0), ("make", "u", ())),)),))
        program = (TOP, ((("d",),), (("u",),), (loop, LEAF)), never, endless)
        self.assertEqual(fruitful(program), ((0, 0), (1, 1)))
        self.assertEqual(reached(program), (0, 1))
        self.assertEqual(trimmed(program), (TOP, ((("d",),), (("u",),), (LEAF,))))

    def test_numbers_move_up(self):
        deep_last = ((((),), (("r",),), (((2,), TOP[2][0][1]),)), ONCE[0], (
            DEEP[1][0], DEEP[1][1], (LEAF, ((2,), NODE[1]))))
        self.assertTrue(is_program(deep_last))
        self.assertEqual(trimmed(deep_last), DEEP)
        self.assertEqual(trimmed(DEEP), DEEP)

    def test_trimmed_has_the_trees(self):
        for seed in range(150):
            program = made_program(seed)
            try:
                clean = trimmed(program)
            except CanNot:
                self.assertEqual(plain_trees(program, 0, 5), [])
                self.assertFalse(is_clean(program))
                continue
            self.assertTrue(is_clean(clean))
            self.assertEqual(is_clean(program), clean == program)
            self.assertEqual(len(plain_trees(clean, 0, 5)), len(plain_trees(program, 0, 5)))
            if len(plain_trees(clean, 0, 5)) <= 2000:
                self.assertEqual(trees_of(clean, 0, 5), plain_trees(clean, 0, 5))

    def test_calls_and_rings(self):
        self.assertEqual((calls(ONCE), rings(ONCE)), ((), ()))
        self.assertEqual((calls(TWICE), rings(TWICE)), (((0, 1),), ()))
        self.assertEqual(rings(ENDLESS), (1,))
        go = ("go", 0)
        ring = (
            (((),), ((),), (((1,), ((go,),)),)), (((),), ((),), (((2,), ((go,),)),)),
            (((),), ((),), (((1,), ((go,),)), ((), ((),)))),
        )
        self.assertEqual((calls(ring), rings(ring)), (((0, 1), (1, 2), (2, 1)), (1, 2)))
        again = ((((),), ((),), (((0,), ((go,),)), ((), ((),)))),)
        self.assertEqual((calls(again), rings(again), is_clean(again)), (((0, 0),), (0,), True))


class Words(unittest.TestCase):
    def test_names(self):
        self.assertEqual(names_of(ONCE, 0), ("r", "x"))
        self.assertEqual(pairs_of(LENT), ((0, "r"), (1, "x"), (1, "y")))
        self.assertEqual(names_of(TWICE, 1), ("a", "u"))

    def test_makers_and_readers_in_callers_and_hands(self):
        self.assertEqual(makers(LENT, 1, "y"), ((1, 1, 0, 0),))
        self.assertEqual(makers(LENT, 1, "x"), ((0, 0, 0, 0),))
        self.assertEqual(readers(LENT, 1, "x"), ((1, 0, 0, 0),))
        self.assertEqual(readers(LENT, 1, "y"), ((0, 0, 0, 2),))
        self.assertEqual(makers(TWICE, 1, "u"), ((1, 0, 1, 0),))
        self.assertEqual(readers(TWICE, 1, "u"), ((0, 0, 0, 4),))
        self.assertEqual(readers(TWICE, 0, "r"), ())

    def test_names_alike_in_two_procedures(self):
        row = (("make", "d", ()), ("make", (0, "d"), ("d",)), ("go", 0), ("hand", "r", "d"))
        program = ((((),), (("r",),), (((1,), (row,)),)), DEEP[1])
        self.assertEqual(makers(program, 0, "d"), ((0, 0, 0, 0),))
        self.assertEqual(readers(program, 0, "d"), ((0, 0, 0, 1), (0, 0, 0, 3)))
        self.assertEqual(makers(program, 1, "d"), ((0, 0, 0, 1), (1, 1, 0, 0)))

    def test_a_source_named_twice_is_one_step(self):
        program = alone(("make", "x", ()), ("make", "r", ("x", "x")))
        self.assertEqual(readers(program, 0, "x"), ((0, 0, 0, 1),))

    def test_errors_in_their_order(self):
        for number in (-1, 2, 10 ** 6):
            for function in (makers, readers):
                with self.assertRaises(NoProcedure) as caught:
                    function(DEEP, number, "nothing")
                self.assertEqual(caught.exception.number, number)
            with self.assertRaises(NoProcedure):
                names_of(DEEP, number)
        for function in (makers, readers):
            for name in ("x", "r"):
                with self.assertRaises(NoName) as caught:
                    function(DEEP, 1, name)
                self.assertEqual(caught.exception.name, name)


if __name__ == "__main__":
    unittest.main()
