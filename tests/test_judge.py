"""Point [25]: one judge."""

import itertools
import random
import unittest

from crossnest.alive import alive_at
from crossnest.judge import first_fallen, is_claim, is_paper_against, paper_against, stands
from crossnest.trees import is_tree, nodes
from tests.plain import PlainRun
from tests.samples import (
    A, AGAIN, BOTH, CHAIN, CROWDED, D, DEEP, ENDLESS, LENT, ONCE, ROOMY, TWICE, wide_program,
)
from tests.small import SLIM, error_told, small_programs
from tests.test_harms import plain_heard, plain_hung
from tests.test_layouts import plain_papers
from tests.test_rounds import make, row_program

WORDS = ("cell", "stack", "queue", "region", "order", "deaf")
WIDE = wide_program("abcde", "")


def plain_numbers_against(claim, tree, run, alive=None):
    """The numbers of all PAPERS against a CLAIM that this TREE has."""
    word, program, lot = claim[:3]
    if word == "deaf":
        asked = [value for event in run.events if event["step"][0] == "ask" for value in event["uses"]]
        return {
            (value, other) for other in asked for value in plain_hung(run, other) | {other}
            if run.events[value]["pair"] in lot
        }
    if word == "round":
        made = [at for at, event in enumerate(run.events) if event["pair"] in lot]
        return {
            (value, made[at + claim[3]], use) for at, value in enumerate(made) for use in run.users(value)
            if at + claim[3] < len(made) and made[at + claim[3]] < use
        }
    number = claim[3] if word == "homes" else 0
    return plain_papers(program, tree, run, word, number, lot, alive)


def claims_of(program, lot):
    return [(word, program, lot) for word in WORDS] + [
        ("round", program, lot, 1), ("round", program, lot, 2), ("homes", program, lot, 0),
        ("homes", program, lot, 1), ("homes", program, lot, 2),
    ]


class Plain(unittest.TestCase):
    def test_is_claim(self):
        for word in WORDS:
            self.assertTrue(is_claim((word, TWICE, A)))
            self.assertTrue(is_claim((word, TWICE, ())))
            self.assertTrue(is_claim((word, WIDE, ((1, "a"),))))
            self.assertFalse(is_claim((word, TWICE, A, 1)))
        for many in (0, 1, 6, 40, 10 ** 30):
            self.assertEqual(is_claim(("round", TWICE, A, many)), many > 0)
            self.assertTrue(is_claim(("homes", TWICE, A, many)))
        for thing in (
                ("round", TWICE, A), ("homes", TWICE, A), ("round", TWICE, A, -1), ("homes", TWICE, A, -1), ("round", TWICE, A, True),
                ("homes", TWICE, A, False), ("round", TWICE, A, None), ("round", TWICE, A, "1"), ("sure", TWICE, A), ("heap", TWICE, A),
                ("sure", TWICE, A, 1), ("", TWICE, A), (None, TWICE, A), (0, TWICE, A), (True, TWICE, A, 1), (("cell",), TWICE, A),
                ["cell", TWICE, A], ("cell", list(TWICE), A), ("cell", TWICE, list(A)), ("cell", TWICE, ([1, "a"],)), ("cell", TWICE),
                ("cell", TWICE, ((1, "a"), (0, "r"))), ("cell", TWICE, ((1, "a"), (1, "a"))), ("cell", TWICE, ((1, "b"),)),
                ("cell", TWICE, ((2, "a"),)), ("cell", TWICE, ((-1, "a"),)), ("cell", TWICE, ((True, "a"),)), ("cell", TWICE, (1, "a")),
                ("cell", TWICE, None), ("cell", TWICE, "a"), ("cell", None, A), ("cell", (), A), ("cell", ENDLESS, D), ("cell", A, A),
                ("cell", DEEP + (ONCE[0],), D), ("cell", (TWICE[0],), ()), None, True, 3, "cell", (), (("cell", TWICE, A),),
                ("cell", TWICE, ((10 ** 30, "a"),)), ("cell", TWICE, ((1, None),)), ("cell", TWICE, ((1, "a", 0),)),
        ):
            self.assertIs(is_claim(thing), False, thing)
            if not isinstance(thing, list) and "[" not in repr(thing):
                for call, rest in ((stands, ()), (paper_against, ()), (is_paper_against, (None,))):
                    self.assertEqual(error_told(call, thing, *rest), ("Unfit",))

    def test_lists_in_a_claim(self):
        # A claim is no thing: lists may stand in the place of its tuples.
        claim = ["stack", [list(part) for part in TWICE], [[1, "a"]]]
        self.assertFalse(stands(claim))
        self.assertEqual(paper_against(claim), (BOTH, (0, 1, 2, 3)))
        self.assertTrue(is_paper_against(claim, (BOTH, (0, 1, 2, 3))))
        self.assertFalse(is_paper_against(claim, (BOTH, [0, 1, 2, 3])))
        self.assertEqual(first_fallen([claim]), (0, (BOTH, (0, 1, 2, 3))))
        self.assertFalse(is_claim(claim))

    def test_papers(self):
        for claim, numbers in (
                (("cell", TWICE, A), (0, 1, 3)), (("round", TWICE, A, 1), (1, 0, 2)), (("round", TWICE, A, 2), (0, 1, 2)),
                (("region", TWICE, A), (0, 1, 2)), (("order", TWICE, A), (0, 1, 3)), (("homes", TWICE, A, 0), (0, 4)),
                (("homes", TWICE, A, 1), (0, 1, 3)), (("homes", TWICE, A, 1), (1, 0, 2)), (("deaf", TWICE, A), (0, 1)),
                (("deaf", TWICE, A), (4, 4)), (("deaf", TWICE, A), (0, 5)), (("deaf", TWICE, A), (0, 2)),
                (("round", TWICE, A, 1), (0, 0, 2)), (("round", TWICE, A, 1), (0, 1, 1)), (("deaf", TWICE, A), (-1, 4)),
        ):
            self.assertFalse(is_paper_against(claim, (BOTH, numbers)), (claim[0], numbers))
        for claim, numbers in (
                (("homes", TWICE, A, 0), (0, 1)), (("homes", TWICE, A, 0), (1, 3)), (("homes", TWICE, A, 1), (0, 1, 2)),
                (("deaf", TWICE, A), (1, 4)), (("deaf", TWICE, ((0, "r"),)), (4, 4)), (("round", TWICE, A, 1), (0, 1, 2)),
        ):
            self.assertTrue(is_paper_against(claim, (BOTH, numbers)), (claim[0], numbers))
        # With which many are made behind it: no later one.
        three = row_program(make("x"), make("y"), make("z"), make("r", "x"))
        lot = ((0, "x"), (0, "y"), (0, "z"))
        self.assertTrue(is_paper_against(("round", three, lot, 1), ((0, ()), (0, 1, 3))))
        self.assertFalse(is_paper_against(("round", three, lot, 1), ((0, ()), (0, 2, 3))))
        self.assertTrue(is_paper_against(("round", three, lot, 2), ((0, ()), (0, 2, 3))))
        self.assertTrue(is_paper_against(("cell", three, lot), ((0, ()), (0, 2, 3))))

    def test_strange_papers(self):
        for claim in claims_of(TWICE, A):
            for thing in (
                    None, True, 1, "paper", (), (BOTH,), (BOTH, None), (BOTH, ()), [BOTH, (0, 1, 2)], (BOTH, [0, 1, 2]), (None, (0, 1, 2)),
                    (BOTH, (False, True, 2)), (BOTH, (0, None, 2)), (BOTH, (0, 1, 10 ** 30)), (BOTH, (0, 1, 2), 0), (CHAIN, (0, 1, 2)),
                    (BOTH, (0, None)), (BOTH, ("0", 4)), (BOTH, (False, 4)), (BOTH, (0, 4, 4)), ((0, ()), (0, 4)), (BOTH, "04"),
                    ((0, [(0, ()), (0, ())]), (0, 4)), (BOTH, (None, None, None)), (BOTH, ((0,), (1,), (2,))),
            ):
                self.assertIs(is_paper_against(claim, thing), False, (claim[0], thing))

    def test_first_fallen(self):
        good, bad = ("cell", ONCE, ((0, "x"),)), ("cell", TWICE, A)
        self.assertIsNone(first_fallen(()))
        self.assertIsNone(first_fallen((good, good)))
        number, paper = first_fallen((good, ("stack", DEEP, D), bad, ("queue", DEEP, D)))
        self.assertEqual(number, 2)
        self.assertTrue(is_paper_against(bad, paper))
        self.assertEqual(error_told(first_fallen, (bad, ("sure", ONCE, ()))), ("Unfit",))
        self.assertEqual(error_told(first_fallen, (("stack", WIDE, ()), ("sure", ONCE, ()))), ("Unfit",))
        # What comes behind the first that falls is not asked.
        self.assertEqual(first_fallen((bad, ("stack", WIDE, ())))[0], 0)
        self.assertEqual(error_told(first_fallen, (good, ("stack", WIDE, ()), bad)), ("TooMany",))

    def test_too_many(self):
        lot = ((1, "a"),)
        for word in ("stack", "queue", "region", "order"):
            for call in (stands, paper_against):
                self.assertEqual(error_told(call, (word, WIDE, lot)), ("TooMany",))
            self.assertIs(is_paper_against((word, WIDE, lot), None), False)
        for claim in (("cell", WIDE, lot), ("round", WIDE, lot, 2), ("deaf", WIDE, lot)):
            for call in (stands, paper_against):
                self.assertIsNone(error_told(call, claim))
        tree, two = (0, ((0, ()),)), ((1, "a"), (1, "b"))
        for word, rest in (("region", ()), ("order", ()), ("homes", (1,))):
            self.assertEqual(error_told(is_paper_against, (word, CROWDED, two) + rest, (tree, (0, 1, 3))), ("TooMany",))
            self.assertIsNone(error_told(is_paper_against, (word, ROOMY, two) + rest, (tree, (0, 1, 3))))
        for word, rest, numbers in (
                ("cell", (), (0, 1, 5)), ("round", (1,), (0, 1, 5)), ("stack", (), (0, 1, 4, 5)), ("deaf", (), (0, 8)),
        ):
            self.assertIsNone(error_told(is_paper_against, (word, CROWDED, two) + rest, (tree, numbers)))


class ForAllRuns(unittest.TestCase):
    def look(self, program, lot, rows, claims):
        most = nodes(rows[-1][0]) - 1
        for claim in claims:
            found = any(plain_numbers_against(claim, tree, run) for tree, run in rows)
            paper = paper_against(claim)
            self.assertEqual(stands(claim), paper is None)
            self.assertEqual(first_fallen((claim,)), None if paper is None else (0, paper))
            if paper is None:
                self.assertFalse(found)
                continue
            tree, numbers = paper
            self.assertTrue(is_tree(program, 0, tree))
            self.assertIn(numbers, plain_numbers_against(claim, tree, PlainRun(program, tree)))
            self.assertTrue(is_paper_against(claim, paper))
            if not found and claim[0] not in ("round", "cell", "homes"):
                self.assertGreater(nodes(tree), most)

    def test_claims_that_need_no_moments(self):
        for program, lot, rows, _ in small_programs(range(1400, 1408)):
            if rows:
                claims = [claim for claim in claims_of(program, lot) if claim[0] not in ("region", "order", "homes")]
                self.look(program, lot, rows[:50], claims)

    def test_all_claims(self):
        for program, lot, rows, _ in small_programs(range(1410, 1414), kinds=SLIM, rules=5, names=3):
            if rows:
                self.look(program, lot, rows[:10], claims_of(program, lot))

    def test_papers(self):
        chance = random.Random(25)
        for program, lot, rows, _ in small_programs(range(1420, 1423), kinds=SLIM, rules=5, names=3):
            for tree, run in rows[:3]:
                most = len(run.events) + 1
                alive = [alive_at(program, tree, moment) for moment in range(most)]
                for claim in claims_of(program, lot):
                    good = plain_numbers_against(claim, tree, run, alive)
                    some = set()
                    for many in (2, 3, 4):
                        some |= {tuple(sorted(chance.choices(range(most), k=many))) for _ in range(6)}
                    for numbers in sorted(good)[:6] + sorted(some):
                        self.assertEqual(is_paper_against(claim, (tree, numbers)), numbers in good, (claim[0], numbers))

    def test_one_claim_beside_another_one(self):
        for program, lot, _, _ in small_programs(range(1430, 1434), kinds=SLIM, rules=5, names=3):
            told = {claim[0:1] + claim[3:]: stands(claim) for claim in claims_of(program, lot)}
            self.assertEqual(told[("cell",)], told[("round", 1)])
            for many in (1, 2):
                if told[("round", many)]:
                    self.assertTrue(told[("homes", many)])
            for one, other in itertools.combinations((0, 1, 2), 2):
                self.assertLessEqual(told[("homes", one)], told[("homes", other)])
            if told[("cell",)]:
                self.assertTrue(all(told[(word,)] for word in ("stack", "queue", "region", "order")))

    def test_deaf(self):
        for program, lot, rows, _ in small_programs(range(1440, 1446)):
            heard = {run.events[value]["pair"] for _, run in rows for value in plain_heard(run)}
            for pair in lot:
                if pair in heard:
                    self.assertFalse(stands(("deaf", program, (pair,))))
        self.assertTrue(stands(("deaf", AGAIN, ((0, "p"), (0, "q"), (0, "y")))))
        self.assertFalse(stands(("deaf", LENT, ((1, "x"),))))
        self.assertTrue(stands(("deaf", LENT, ())))


if __name__ == "__main__":
    unittest.main()
