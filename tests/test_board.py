"""Point [27]: a Board, beside an own ledger."""

import random
import unittest

from crossnest.board import Board
from crossnest.layouts import serves
from crossnest.programs import pairs_of
from tests.ledger import Ledger
from tests.plain import PlainRun
from tests.samples import (
    A, BOTH, CROWDED, D, DEEP, LEAF, LENT, NODE, ONCE, ROOMY, TOP, TWICE, wide_program,
)
from tests.small import SLIM, error_told, small_programs
from tests.test_rounds import make, row_program

LOOKS = ("program", "parts", "front", "known", "events", "least", "alive", "failing", "seen")
HOMES = ("cell", "round", "stack", "queue", "region", "order", "homes", "heap")
# u is made anew, or of d.
OWN = ((), ((make("u"),),))


def looks_of(board):
    return tuple(getattr(board, look)() for look in LOOKS)


def told_by(board, deed, given):
    """What a deed returns, or the error that it raises."""
    try:
        return getattr(board, deed)(*given)
    except (LookupError, ValueError) as error:
        return type(error).__name__, *vars(error).values()


def some_deed(chance, board, spare):
    """A deed by chance, right or wrong."""
    program = board.program()
    pairs = list(pairs_of(program))
    deed = chance.choice(["choose"] * 5 + ["keep"] * 4 + ["leave", "add", "strike", "strike", "undo", "undo", "redo", "redo"])
    if deed == "choose":
        return deed, (chance.choice([0, 0, 1, 2, -1]),)
    if deed == "keep":
        home = chance.choice(HOMES + ("shelf",))
        number = chance.choice([1, 2]) if home in ("round", "homes") and chance.random() < 0.9 else chance.choice([0] * 9 + [1, 7, -1])
        lot = tuple(sorted(chance.sample(pairs, min(len(pairs), chance.randint(1, 2)))))
        return deed, (home, number, chance.choice([lot] * 8 + [(), lot[::-1] + lot, ((9, "a"),)]))
    if deed == "leave":
        return deed, (chance.choice([0, 0, 1, 2, -1]),)
    if deed == "add":
        return deed, (chance.randint(-1, len(program)), chance.choice(spare))
    if deed == "strike":
        return deed, (chance.randint(0, len(program) - 1), chance.choice([0, 1, 1, 2, -1]))
    return deed, ()


class Plain(unittest.TestCase):
    def test_a_new_one(self):
        board = Board(TWICE)
        self.assertEqual(looks_of(board), (TWICE, (), (), (), (), BOTH, (), (), ()))
        for deed in (board.undo, board.redo):
            self.assertEqual(error_told(deed), ("NothingDone",))
        self.assertEqual(error_told(board.leave, 0), ("CanNot",))
        self.assertEqual(board, Board(program=TWICE))

    def test_choose(self):
        board = Board(TWICE)
        for rule in (1, -1, 10 ** 6):
            self.assertEqual(error_told(board.choose, rule), ("NoRule", rule))
        self.assertEqual(board.choose(rule=0), ())
        self.assertEqual(board.choose(0), (((0,), 0, 0),))
        self.assertEqual((board.front(), board.known()), ((1,), (((), 0), ((0,), 0))))
        self.assertEqual(board.choose(0), (((1,), 0, 0), ((0,), 1, 0), ((1,), 1, 0), ((), 0, 4), ((), 0, 5)))
        self.assertIsNone(board.front())
        for rule in (0, 7, -1):
            self.assertEqual(error_told(board.choose, rule), ("CanNot",))
        self.assertEqual(len(board.events()), 6)

    def test_nodes_that_are_never_gone_to(self):
        idle = (
            (((),), ((),), (((1,), ((("go", 0),),)),)),
            (((), ()), ((), ()), (((2,), ((), (("go", 0),))), ((), ((), ())))),
            (((),), ((),), (((), ((make("x"),),)),)),
        )
        board = Board(idle)
        self.assertEqual((board.choose(0), board.front(), board.choose(0)), ((), (0,), (((), 0, 1),)))
        self.assertEqual((board.front(), board.known(), board.least()), (None, (((), 0), ((0,), 0)), (0, ((0, ((0, ()),)),))))

    def test_keep_and_leave(self):
        board = Board(TWICE)
        for home, number, lot in (
                ("cell", 1, A), ("round", 0, A), ("round", 7, A), ("homes", 0, A), ("homes", 7, A), ("shelf", 0, A), ("", 0, A),
                ("heap", 1, A), ("cell", -1, A), ("cell", 0, ()), ("cell", 0, ((1, "u"), (1, "a"))), ("cell", 0, A + A),
                ("cell", 0, ((1, "b"),)), ("cell", 0, ((2, "a"),)), ("cell", 0, ((-1, "a"),)), ("round", 10 ** 6, A),
        ):
            self.assertEqual(error_told(board.keep, home, number, lot), ("Unfit",))
        self.assertEqual(error_told(board.undo), ("NothingDone",))
        self.assertIsNone(board.keep(home="round", number=6, lot=A))
        self.assertIsNone(board.keep("stack", 0, [[0, "r"], [1, "u"]]))
        self.assertIsNone(board.keep("homes", 1, A))
        parts = (("round", 6, A), ("stack", 0, ((0, "r"), (1, "u"))), ("homes", 1, A))
        self.assertEqual(board.parts(), parts)
        for position in (3, -1, 10 ** 6):
            self.assertEqual(error_told(board.leave, position), ("CanNot",))
        self.assertEqual(board.failing(), (2,))
        self.assertIsNone(board.leave(1))
        self.assertEqual(board.parts(), parts[::2])
        # A pair that no make makes may be kept, unlike in a LAYOUT; and more than six parts.
        lent = Board(LENT)
        for _ in range(7):
            lent.keep("cell", 0, ((1, "y"),))
        self.assertEqual(len(lent.parts()), 7)

    def test_add(self):
        shallow = (TOP, DEEP[1][:2] + ((LEAF,),))
        board = Board(shallow)
        self.assertIsNone(board.add(procedure=1, rule=NODE))
        self.assertEqual(board.program(), DEEP)
        for rule in (None, (), 7, ((), ((),)), ((), ((make("u", "x"),),)), ((2,), ((("go", 0), make("u")),)), ((), ((make("u"),), ()))):
            self.assertEqual(error_told(board.add, 1, rule), ("Unfit",))
            self.assertEqual(error_told(board.add, 2, rule), ("NoProcedure", 2))
            self.assertEqual(error_told(board.add, -1, rule), ("NoProcedure", -1))
        for _ in range(5):
            board.add(1, OWN)
        self.assertEqual(sum(len(rules) for _, _, rules in board.program()), 8)
        self.assertEqual(error_told(board.add, 1, OWN), ("Unfit",))
        self.assertEqual(error_told(board.add, 0, TOP[2][0]), ("Unfit",))

    def test_bounds_of_add(self):
        board = Board(ONCE)
        steps = lambda many: tuple(("hand", name, "x") for name in "abcdef")[:many]
        names = [make("r")] + [make(name) for name in "abcdefghijk"]
        for locals_told, is_good in ((6, True), (7, False)):
            # r and x are NAMES, too.
            rule = ((), (tuple(names[:1 + locals_told]),))
            self.assertEqual(error_told(Board(ONCE).add, 0, rule), None if is_good else ("Unfit",))
        self.assertIsNone(error_told(board.add, 0, ((), ((make("x"),) + steps(6) + (make("r"),),))))
        self.assertEqual(error_told(board.add, 0, ((), ((make("y"), make("r")),))), ("Unfit",))
        # Twelve STEPS in all rows together, and thirteen.
        many = (
            (((), ()), (("p",), ("q",)), (((1,), ((make("p"),), (("go", 0), make("q")))),)),
            (((), (), ()), ((), (), ()), (((), ((), (), ())),)),
        )
        goes = tuple(("go", place) for place in (0, 1, 2) for _ in range(3))
        for more, is_good in (("a", True), ("ab", False)):
            rule = ((1, 1, 1), (goes[:5] + (make("p"),), goes[5:] + (make("q"),) + tuple(make(name) for name in more)))
            self.assertEqual(sum(map(len, rule[1])), 11 + len(more))
            self.assertEqual(error_told(Board(many).add, 0, rule), None if is_good else ("Unfit",))

    def test_strike(self):
        board = Board(DEEP)
        board.keep("cell", 0, D)
        for procedure, number, told in (
                (2, 0, ("NoProcedure", 2)), (-1, 9, ("NoProcedure", -1)), (1, 2, ("NoRule", 2)), (1, -1, ("NoRule", -1)), (0, 1, ("NoRule", 1)),
                (0, 0, ("Unfit",)), (1, 0, ("Unfit",)),
        ):
            self.assertEqual(error_told(board.strike, procedure, number), told)
        self.assertEqual(board.failing(), (0,))
        self.assertIsNone(board.strike(procedure=1, number=1))
        self.assertEqual((board.failing(), board.program()[1][2]), ((), (LEAF,)))
        board.undo()
        board.choose(0)
        board.choose(1)
        # A node entered follows it: that comes ahead of what would be no clean PROGRAM.
        self.assertEqual(error_told(board.strike, 0, 0), ("CanNot",))
        self.assertEqual(error_told(board.strike, 1, 1), ("CanNot",))
        self.assertEqual(error_told(board.strike, 1, 0), ("Unfit",))

    def test_a_rule_struck_below_the_one_that_a_node_follows(self):
        program = (TOP, DEEP[1][:2] + ((OWN, LEAF, NODE),))
        board = Board(program)
        board.choose(0)
        board.choose(2)
        events = board.events()
        self.assertEqual(board.least(), (0, ((2, ((0, ()),)),)))
        board.strike(1, 0)
        self.assertEqual(board.known(), (((), 0), ((0,), 1)))
        self.assertEqual((board.program(), board.least(), board.events()), (DEEP, (0, ((1, ((0, ()),)),)), events))
        board.undo()
        self.assertEqual(board.known(), (((), 0), ((0,), 2)))
        board.strike(1, 1)
        self.assertEqual(board.known(), (((), 0), ((0,), 1)))
        self.assertEqual(board.program()[1][2], (OWN, NODE))
        # The number that moved up is that of a node entered now.
        self.assertEqual(error_told(board.strike, 1, 1), ("CanNot",))
        self.assertEqual(board.choose(0), (((0, 0), 0, 0), ((0,), 0, 2), ((), 0, 2), ((), 0, 3)))

    def test_a_pair_that_a_part_has(self):
        program = row_program(make("x"), make("r", "x"))
        program = ((((),), (("r",),), program[0][2] + row_program(make("y"), make("r", "y"))[0][2]),)
        board = Board(program)
        board.keep("heap", 0, ((0, "y"),))
        self.assertEqual(error_told(board.strike, 0, 1), ("Unfit",))
        self.assertIsNone(board.strike(0, 0))
        board.undo()
        board.leave(0)
        self.assertIsNone(board.strike(0, 1))
        self.assertEqual(error_told(board.keep, "heap", 0, ((0, "y"),)), ("Unfit",))

    def test_undo_and_redo(self):
        board = Board(DEEP)
        board.keep("stack", 0, D)
        board.choose(0)
        self.assertIsNone(board.undo())
        self.assertIsNone(board.undo())
        self.assertEqual(board, Board(DEEP))
        self.assertEqual(error_told(board.undo), ("NothingDone",))
        self.assertIsNone(board.redo())
        self.assertEqual((board.parts(), board.known()), ((("stack", 0, D),), ()))
        self.assertIsNone(board.redo())
        self.assertEqual(error_told(board.redo), ("NothingDone",))
        # A deed that raises drops nothing, a new one drops what is taken back.
        board.undo()
        self.assertEqual(error_told(board.choose, 9), ("NoRule", 9))
        board.redo()
        self.assertEqual(board.known(), (((), 0),))
        board.undo()
        board.leave(0)
        self.assertEqual(error_told(board.redo), ("NothingDone",))
        board.undo()
        self.assertEqual(board.parts(), (("stack", 0, D),))

    def test_twins_go_their_own_ways(self):
        board = Board(DEEP)
        board.choose(0)
        board.keep("cell", 0, D)
        board.undo()
        twin = board.twin()
        self.assertEqual(board, twin)
        self.assertFalse(board != twin)
        twin.redo()
        self.assertEqual((twin.parts(), board.parts()), ((("cell", 0, D),), ()))
        self.assertNotEqual(board, twin)
        board.redo()
        self.assertEqual(board, twin)
        twin.undo()
        twin.undo()
        twin.choose(0)
        board.choose(1)
        self.assertEqual((twin.known(), board.known()), ((((), 0),), (((), 0), ((0,), 1))))
        board.undo()
        board.undo()
        self.assertEqual(board, twin)
        self.assertEqual(error_told(twin.redo), ("NothingDone",))
        self.assertIsNone(board.redo())

    def test_equal(self):
        one, other = Board(DEEP), Board(DEEP)
        one.choose(0)
        one.undo()
        # What may be done again does not count.
        self.assertEqual(one, other)
        one.keep("cell", 0, D)
        self.assertTrue(one != other)
        other.keep("cell", 0, D)
        self.assertEqual(one, other)
        one.choose(0)
        self.assertNotEqual(one, other)
        for thing in (None, 0, DEEP, "board", (), Board(TWICE), Ledger(DEEP)):
            self.assertFalse(Board(DEEP) == thing)
            self.assertTrue(Board(DEEP) != thing)

    def test_it_keeps_a_copy(self):
        program = [[[[]], [["r"]], [[[], [[["make", "x", []], ["make", "r", ["x"]]]]]]]]
        lot = [[0, "x"]]
        board = Board(program)
        board.keep("cell", 0, lot)
        program[0][2].append([[], [[["make", "r", []]]]])
        lot.append([0, "y"])
        lot[0][1] = "r"
        self.assertEqual((board.program(), board.parts()), (ONCE, (("cell", 0, ((0, "x"),)),)))
        rule = [[], [[["make", "r", []]]]]
        board.add(0, rule)
        rule[1][0].append(["make", "z", []])
        self.assertEqual(board.program()[0][2][1], ((), ((make("r"),),)))

    def test_what_is_entered_is_not_known_yet(self):
        board = Board(LENT)
        board.choose(0)
        self.assertEqual((board.events(), board.alive()), ((((), 0, 0),), (0,)))
        board.choose(1)
        self.assertEqual(board.alive(), ())
        board.undo()
        # With a RULE that does nothing ahead of its own callee, x is alive as long as nothing came.
        idle = (LENT[0], LENT[1][:2] + (LENT[1][2] + (((1,), ((("hand", (0, "x"), "x"), ("go", 0), ("hand", "y", (0, "y"))),)),),))
        waits = (LENT[0], LENT[1][:2] + (LENT[1][2] + (((2,), ((("go", 0), make("y")),)),),), (((),), ((),), (((), ((),)),)))
        board = Board(waits)
        board.choose(0)
        self.assertEqual(board.alive(), (0,))
        self.assertEqual(board.choose(2), ())
        # The callee is entered, yet no EVENT came behind the go to it.
        self.assertEqual((board.front(), board.alive()), ((0, 0), (0,)))
        board.choose(0)
        self.assertEqual(board.alive(), ())
        board = Board(idle)
        board.choose(0)
        board.choose(2)
        self.assertEqual(board.alive(), (0,))

    def test_seen_at_the_last_event(self):
        board = Board(TWICE)
        for home, number in (("cell", 0), ("round", 1), ("stack", 0), ("region", 0), ("order", 0), ("homes", 1), ("queue", 0), ("heap", 0)):
            board.keep(home, number, A)
        self.assertEqual(board.failing(), (0, 1, 2, 3, 5))
        board.choose(0)
        board.choose(0)
        self.assertEqual(board.seen(), ())
        board.choose(0)
        self.assertEqual(board.seen(), (0, 1, 2, 3, 5))
        self.assertEqual(len(board.events()), 6)

    def test_seen_by_what_is_dead_by_now(self):
        # The first callee is entered as x and y wait, the second one as one of them is used.
        idle = (((),), ((),), (((), ((),)),))
        for home, first, second in (("region", "x", "y"), ("order", "y", "x")):
            row = (make("x"), make("y"), ("go", 0), make("p", first), ("go", 1), make("r", second))
            board = Board(((((),), (("r",),), (((1, 1), (row,)),)), idle))
            board.keep(home, 0, ((0, "x"), (0, "y")))
            told = []
            for _ in range(3):
                board.choose(0)
                told.append((len(board.events()), board.seen()))
            self.assertEqual(told, [(2, ()), (3, (0,)), (5, (0,))])

    def test_too_many(self):
        board = Board(CROWDED)
        pairs = ((1, "a"), (1, "b"))
        self.assertEqual(error_told(board.alive), ("TooMany",))
        board.keep("stack", 0, pairs)
        self.assertEqual((board.failing(), board.seen()), (board.failing(), ()))
        board.keep("region", 0, pairs)
        self.assertEqual(error_told(board.seen), ("TooMany",))
        for home, number in (("order", 0), ("homes", 1)):
            board.leave(1)
            board.keep(home, number, pairs)
            self.assertEqual(error_told(board.seen), ("TooMany",))
        self.assertEqual((board.front(), board.events()), ((), ()))
        roomy = Board(ROOMY)
        roomy.keep("region", 0, pairs)
        self.assertEqual((roomy.alive(), roomy.seen()), ((), ()))
        wide = Board(wide_program("abcde", ""))
        wide.keep("heap", 0, pairs)
        self.assertEqual(wide.failing(), ())
        for home in ("cell", "stack", "queue", "region", "order"):
            wide.keep(home, 0, pairs)
            self.assertEqual(error_told(wide.failing), ("TooMany",))
            wide.undo()


class BesideALedger(unittest.TestCase):
    def look(self, board, ledger):
        told = looks_of(board)
        self.assertEqual(told, ledger.looks())
        self.assertLessEqual(set(told[8]), set(told[7]))

    def test_rows_of_deeds(self):
        chance, done, refused = random.Random(27), 0, 0
        for program, _, _, _ in small_programs(range(1500, 1506), kinds=SLIM, rules=5):
            spare = [rule for _, _, rules in program for rule in rules] + [None, ((), ((),))]
            board, ledger, twins = Board(program), Ledger(program), []
            for number in range(16):
                deed, given = some_deed(chance, board, spare)
                # Rows of [15] have at most five RULES.
                if deed == "add" and sum(len(rules) for _, _, rules in board.program()) > 4:
                    continue
                told = told_by(ledger, deed, given)
                before = looks_of(board) if isinstance(told, tuple) and told[:1] and isinstance(told[0], str) else None
                self.assertEqual(told_by(board, deed, given), told, (deed, given))
                done += before is None
                if before is not None:
                    refused += 1
                    self.assertEqual(looks_of(board), before)
                if number % 4 == 3:
                    self.look(board, ledger)
                if number == 8:
                    twins.append((board.twin(), looks_of(board), ledger.at, len(ledger.states)))
            for twin, looks, at, many in twins:
                self.assertEqual(looks_of(twin), looks)
                for _ in range(at):
                    twin.undo()
                self.assertEqual(twin, Board(program))
                for _ in range(many - 1):
                    twin.redo()
                self.assertEqual(error_told(twin.redo), ("NothingDone",))
        self.assertGreater(done, 150)
        self.assertGreater(refused, 80)

    def test_to_the_end(self):
        chance = random.Random(28)
        for program, lot, rows, _ in small_programs(range(1510, 1514), kinds=SLIM, rules=5):
            board = Board(program)
            for home in HOMES:
                board.keep(home, 1 if home in ("round", "homes") else 0, lot)
            ledger = Ledger(program)
            for home in HOMES:
                ledger.keep(home, 1 if home in ("round", "homes") else 0, lot)
            told, many = [], 0
            while board.front() is not None and many < 8:
                rule = chance.choice([0, 0, 1])
                found = told_by(board, "choose", (rule,))
                self.assertEqual(found, told_by(ledger, "choose", (rule,)))
                many += 1
                if found[:1] != ("NoRule",):
                    told += found
            self.assertEqual(board.events(), tuple(told))
            self.look(board, ledger)
            if board.front() is None:
                run = PlainRun(program, board.least())
                self.assertEqual(len(told), len(run.events))

    def test_a_rule_more_never_helps(self):
        for program, lot, _, _ in small_programs(range(1520, 1523), kinds=SLIM, rules=4, names=2):
            board = Board(program)
            for home, number in (("cell", 0), ("round", 2), ("stack", 0), ("queue", 0), ("homes", 1)):
                board.keep(home, number, lot)
                self.assertEqual(not serves(program, home, number, lot), len(board.parts()) - 1 in board.failing())
            failed = set(board.failing())
            for at, (_, _, rules) in enumerate(program):
                for rule in rules[:1]:
                    board.add(at, rule)
                    self.assertLessEqual(failed, set(board.failing()))
                    board.undo()


if __name__ == "__main__":
    unittest.main()
