"""Point [8]: PATTERNS, SEATS, ENTRIES and closed families, the least RUNS with a MOMENT."""

import itertools
import random
import unittest

from crossnest.alive import alive_at, last_moment
from crossnest.choices import entry_of, is_closed
from crossnest.entries import entries, entry_tree, is_pattern, matched, seats
from crossnest.errors import CanNot, TooMany, Unfit
from crossnest.openings import least_moment
from crossnest.programs import pairs_of
from crossnest.runs import events, makes_of
from crossnest.trees import is_tree, nodes
from tests.plain import PlainRun, plain_trees
from tests.samples import (
    A, BOTH, CHAIN, CROSS, CROSSED, CROWDED, D, DEEP, EMPTY_INS, LENT, ONCE, ROOMY, TWICE, wide_program,
)
from tests.test_trees import clean_programs

CELL, QUEUE = CROSS[:3], (CROSS[0], CROSS[1], CROSS[3], CROSS[2])
ROUND = (("make", 0), ("make", None), ("make", None), ("use", 0))
MADE = (("make", 0),)
PATTERNS = [CELL, CROSS, QUEUE, ROUND, MADE, (("make", None),) + CROSS, CROSS + (("use", 0),)]
# asked and again of the document.
ASKED = (
    (((),), (("r",),), (((1,), ((
        ("make", (0, "x"), ()), ("make", (0, "y"), ()), ("go", 0), ("make", "r", ((0, "z"),))),)),)),
    ((("x", "y"),), (("z",),), (
        ((), ((("make", "z", ("x",)),),)), ((), ((("make", "w", ()), ("make", "z", ("y",))),)))),
)
AGAIN = ((((),), (("r",),), (((), ((
    ("make", "x", ()), ("make", "y", ()), ("make", "p", ("x",)), ("make", "q", ("y",)), ("make", "r", ("x",))),)),)),)


def visits_of(program, procedure, tree, visits):
    """A plain walk of the first visits of a TREE, without askings and values from outside."""
    run = PlainRun(program, tree, procedure, 0)
    for visit in range(visits):
        run.turn, run.gone[()] = visit, visit + 1
        run.row((), procedure, tree, visit)
    return run


def plain_entry(program, lot, pattern, seat, tree, makes, ins):
    """The ENTRY by this choice, None if there is no such choice; makes has EVENTS of lot."""
    guesses = range(len(makes))
    run = visits_of(program, seat[0], tree, seat[1])
    held, made, left, rows = {}, [-1 for _ in guesses], [False for _ in guesses], []
    for visit in range(seat[1]):
        for guess in guesses:
            for name in ins[visit][guess]:
                held[((), name)] = guess
                if makes[guess] is not None and not left[guess]:
                    return None
        moves = list(range(len(pattern) + 1))
        for event in run.events:
            if event["turn"] == visit:
                plain_move(event, lot, pattern, makes, held, made, moves, visit)
        outs = tuple(
            tuple(name for name in program[seat[0]][1][visit] if held.get(((), name)) == guess) for guess in guesses)
        left = [left[guess] or (made[guess] >= 0 and len(outs[guess]) > 0) for guess in guesses]
        rows.append((ins[visit], outs, tuple(moves)))
    return tuple(made), tuple(rows)


def plain_move(event, lot, pattern, makes, held, made, moves, visit):
    if event["step"][0] == "hand":
        if event["slots"][0] in held:
            held[event["sets"]] = held[event["slots"][0]]
        return
    used = {held[slot] for slot in event["slots"] if slot in held}
    chosen = makes.index(event["spot"]) if event["spot"] in makes else None
    for at, number in enumerate(moves):
        if number < len(pattern):
            deed, guess = pattern[number]
            if deed == "use":
                fits = guess in used
            else:
                fits = event["pair"] in lot if guess is None else chosen == guess
            moves[at] += fits
    if chosen is not None:
        made[chosen] = visit
        held[event["sets"]] = chosen


def choices_of(program, lot, pattern, seat, tree):
    """All that may be choices: makes, and INS for each visit."""
    guesses = 2 if ("make", 1) in pattern else 1
    run = visits_of(program, seat[0], tree, seat[1])
    made = [None] + [event["spot"] for event in run.events if event["pair"] in lot]
    spread = []
    for visit in range(seat[1]):
        names, rows = program[seat[0]][0][visit], []
        for told in itertools.product(range(-1, guesses), repeat=len(names)):
            rows.append(tuple(
                tuple(name for name, guess in zip(names, told) if guess == at) for at in range(guesses)))
        spread.append(rows)
    for makes in itertools.product(made, repeat=guesses):
        if guesses == 1 or makes[0] is None or makes[0] != makes[1]:
            for ins in itertools.product(*spread):
                yield makes, ins


def plain_takes(program, tree, lot, pattern):
    """Whether the RUN takes the PATTERN."""
    run = PlainRun(program, tree)
    guesses = 2 if ("make", 1) in pattern else 1
    values = [at for at, event in enumerate(run.events) if event["pair"] in lot]
    for told in itertools.permutations(values, guesses):
        at = 0
        for number, event in enumerate(run.events):
            if at < len(pattern):
                deed, guess = pattern[at]
                if deed == "use":
                    at += told[guess] in event["uses"]
                else:
                    at += number in values if guess is None else number == told[guess]
        if at == len(pattern):
            return True
    return False


class Patterns(unittest.TestCase):
    def test_patterns(self):
        for thing in PATTERNS + [MADE, (("make", 0), ("make", 1)), (("make", None), ("make", 0), ("use", 0))]:
            self.assertTrue(is_pattern(thing), thing)

    def test_no_patterns(self):
        for thing in (
                (), (("use", 0),), (("make", 1),), (("make", 1), ("make", 0)), (("make", None),), (("make", 0),) * 2,
                (("make", 0), ("use", 1)), (("make", 0), ("use", 1), ("make", 1)), (("make", 0), ("use", None)),
                (("make", 0), ("make", 1), ("make", 1)), (("make", False),), (("make", 0), ("make", True)),
                (("make", 0), ("use", False)), (("make", 2),), (("make", 0), ("make", -1)), [("make", 0)], (["make", 0],),
                (("make", 0, 0),), (("make",),), ("make", 0), (("take", 0),), ((0, "make"),), (("make", "0"),), None, 7,
                ((["make"], 0),), (("make", 0), None), (("make", 0), ("use", (0,))), "make",
        ):
            self.assertIs(is_pattern(thing), False, thing)

    def test_seats(self):
        self.assertEqual(seats(ONCE), ((0, 1),))
        self.assertEqual(seats(DEEP), ((0, 1), (1, 1)))
        go = ("go", 0)
        program = (
            (((), ()), ((), ()), (((1,), ((), (go, go))),)),
            (((), (), ()), ((), (), ()), (((2,), ((), (go,), (go,))), ((), ((), (), ())))),
            (((), ()), ((), ()), (((0,), ((go,), (go,))),)),
        )
        self.assertEqual(seats(program), ((0, 1), (0, 2), (1, 2), (2, 1)))


class Entries(unittest.TestCase):
    def test_by_chance(self):
        chance, told = random.Random(7), 0
        for seed, program in clean_programs(range(250), hands=0.5):
            pattern = chance.choice(PATTERNS)
            pairs = pairs_of(program)
            lot = tuple(sorted(chance.sample(pairs, min(len(pairs), chance.randint(1, 4)))))
            found = entries(program, lot, pattern)
            self.assertEqual(found, tuple(sorted(set(found))))
            self.assertTrue(is_closed(program, lot, pattern, found), seed)
            if found:
                at = chance.randrange(len(found))
                self.assertFalse(is_closed(program, lot, pattern, found[:at] + found[at + 1:]), seed)
            told += self.look_at(program, lot, pattern, found, chance, seed)
        self.assertGreater(told, 1000)

    def look_at(self, program, lot, pattern, found, chance, seed):
        held, first, told = set(found), {}, 0
        few = {}
        for seat in seats(program):
            trees = plain_trees(program, seat[0], 4)
            few[seat] = len(trees) <= 25
            for tree in trees[:25]:
                for makes, ins in choices_of(program, lot, pattern, seat, tree):
                    entry = plain_entry(program, lot, pattern, seat, tree, makes, ins)
                    told += 1
                    if chance.random() < 0.1:
                        self.look_at_choice(program, lot, pattern, seat, tree, makes, ins, entry)
                    if entry is not None:
                        self.assertIn((seat, entry), held, seed)
                        first.setdefault((seat, entry), tree)
        for seat, entry in chance.sample(found, min(len(found), 8)):
            tree = entry_tree(program, lot, pattern, seat, entry)
            self.assertTrue(is_tree(program, seat[0], tree))
            if few[seat] and (seat, entry) in first:
                self.assertEqual(tree, first[(seat, entry)], seed)
            elif nodes(tree) < 9:
                self.assertTrue(any(
                    plain_entry(program, lot, pattern, seat, tree, makes, ins) == entry
                    for makes, ins in choices_of(program, lot, pattern, seat, tree)), seed)
        return told

    def look_at_choice(self, program, lot, pattern, seat, tree, makes, ins, entry):
        if entry is None:
            with self.assertRaises(Unfit):
                entry_of(program, lot, pattern, seat, tree, makes, ins)
        else:
            self.assertEqual(entry_of(program, lot, pattern, seat, tree, makes, ins), entry)

    def test_a_run_takes_a_pattern_as_its_entries_tell(self):
        for seed, program in clean_programs(range(80), visits=2):
            for pattern in (CELL, CROSS, QUEUE, ROUND):
                lot = pairs_of(program)[:3]
                start = (0, len(program[0][0]))
                full = [
                    entry for seat, entry in entries(program, lot, pattern)
                    if seat == start and min(entry[0]) >= 0 and matched(program, pattern, entry) == len(pattern)
                ]
                least = None
                for entry in full:
                    tree = entry_tree(program, lot, pattern, start, entry)
                    self.assertTrue(nodes(tree) > 9 or plain_takes(program, tree, lot, pattern), seed)
                    least = min(filter(None, (least, (nodes(tree), tree))))
                for tree in plain_trees(program, 0, 4)[:60]:
                    if plain_takes(program, tree, lot, pattern):
                        self.assertIsNotNone(least, seed)
                        self.assertLessEqual(least, (nodes(tree), tree), seed)

    def test_a_value_leaves_and_comes_back_while_its_maker_waits(self):
        inner = (((), ()), (("u",), ()), (((), ((("make", "u", ()),), ())),))
        outer = (((), ("a",)), (("o",), ()), (
            ((2,), ((("go", 0), ("hand", "o", (0, "u"))), (("make", "y", ("a",)), ("go", 0)))),
        ))
        row = (("go", 0), ("hand", (0, "a"), (0, "o")), ("go", 0), ("make", "r", ()))
        program = ((((),), (("r",),), (((1,), (row,)),)), outer, inner)
        lot, pattern = ((2, "u"),), (("make", 0), ("use", 0))
        entry = ((0,), ((((),), (("o",),), (1, 1, 2)), ((("a",),), ((),), (0, 2, 2))))
        self.assertIn(((1, 2), entry), entries(program, lot, pattern))
        full = ((0,), ((((),), ((),), (2, 2, 2)),))
        self.assertEqual(entry_tree(program, lot, pattern, (0, 1), full), (0, ((0, ((0, ()),)),)))

    def test_entry_tree_of_what_does_not_come(self):
        start = (0, 1)
        self.assertEqual(entry_tree(TWICE, A, CROSS, start, CROSSED), BOTH)
        self.assertIsNone(entry_tree(TWICE, A, QUEUE, start, CROSSED))
        other = ((0, -1), CROSSED[1])
        self.assertIsNone(entry_tree(TWICE, A, CROSS, start, other))
        self.assertIsNone(entry_tree(ONCE, ((0, "x"),), MADE, start, ((0,), ((((),), (("r",),), (1, 1)),))))
        self.assertEqual(entry_tree(ONCE, ((0, "x"),), MADE, start, ((0,), ((((),), ((),), (1, 1)),))), (0, ()))

    def test_matched_counts_askings(self):
        pattern = MADE + (("use", 0),)
        asked = ((0,), ((((),), (("r",),), (1, 1, 2)),))
        self.assertEqual(matched(ONCE, pattern, asked), 2)
        self.assertEqual(matched(ONCE, pattern, ((0,), ((((),), ((),), (1, 1, 2)),))), 1)
        self.assertEqual(matched(ONCE, CELL, ((0, 0), ((((), ()), ((), ("r",)), (2, 2, 2, 3)),))), 2)

    def test_too_many(self):
        entry = ((-1,), ((((),), ((),), (0, 1)),))
        for ins, outs in (("abcde", ""), ("", "abcde")):
            program = wide_program(ins, outs)
            for call in (
                    lambda: entries(program, (), MADE), lambda: entry_tree(program, (), MADE, (0, 1), entry),
                    lambda: is_closed(program, (), MADE, ()), lambda: is_closed(program, (), MADE, None),
                    lambda: least_moment(program, (), "region"), lambda: least_moment(program, (), "order"),
            ):
                with self.assertRaises(TooMany):
                    call()
            self.assertEqual(entry_of(program, (), MADE, (0, 1), (0, ((0, ()),)), (None,), (((),),)), entry)
            with self.assertRaises(CanNot):
                least_moment(program, (), "stack")
        self.assertGreater(len(entries(wide_program("abcd", "efgh"), (), MADE)), 0)

    def test_many_passings_are_no_matter_here(self):
        lot = ((1, "a"), (1, "b"))
        self.assertGreater(len(entries(CROWDED, lot, MADE)), 100)
        self.assertEqual(least_moment(CROWDED, lot, "region"), least_moment(ROOMY, lot, "region"))


class Choices(unittest.TestCase):
    def check_unfit(self, program, seat, tree, makes, ins, pattern=CROSS, lot=A):
        with self.assertRaises(Unfit):
            entry_of(program, lot, pattern, seat, tree, makes, ins)

    def test_events(self):
        tree = (0, ())
        for make in (((), 1, 0), ((), 0, 1), ((0,), 0, 0), ((), 0, -1), ((), 2, 0)):
            self.check_unfit(TWICE, (1, 2), tree, (make, None), EMPTY_INS)
        same = ((), 0, 0)
        self.check_unfit(TWICE, (1, 2), tree, (same, same), EMPTY_INS)
        self.check_unfit(TWICE, (1, 1), tree, (None, ((), 1, 0)), EMPTY_INS[:1], lot=((1, "a"), (1, "u")))
        entry = entry_of(TWICE, ((1, "a"), (1, "u")), CROSS, (1, 2), tree, (same, ((), 1, 0)), EMPTY_INS)
        self.assertEqual(entry, ((0, 1), ((((), ()), ((), ()), (1, 1, 2, 3, 4)), (((), ()), ((), ("u",)), (0, 2, 3, 3, 4)))))

    def test_ins(self):
        tree = (0, ())
        for ins in (((("d",), ("d",)),), ((("u",), ()),), ((("q",), ()),), (((),),), ((), ()), ((("d",), (), ()),)):
            self.check_unfit(DEEP, (1, 1), tree, (None, None), ins, lot=D)
        entry = entry_of(DEEP, D, CROSS, (1, 1), tree, (None, None), (((), ("d",)),))
        self.assertEqual(entry, ((-1, -1), ((((), ("d",)), ((), ()), (0, 1, 2, 4, 4)),)))

    def test_a_value_made_inside_comes_back_in_by_an_out_alone(self):
        ins, outs = (("a",), ("b",), ("c",)), (("u",), (), ())
        for handed, fits in (("x", True), ("y", False)):
            rows = ((("make", "x", ()), ("make", "y", ()), ("hand", "u", handed)), (), ())
            row = (
                ("make", (0, "a"), ()), ("go", 0), ("make", (0, "b"), ()), ("go", 0), ("make", (0, "c"), ()), ("go", 0),
                ("make", "r", ()),
            )
            program = ((((),), (("r",),), (((1,), (row,)),)), (ins, outs, (((), rows),)))
            lot, makes = ((1, "x"),), (((), 0, 0),)
            for come in ((((),), (("b",),), ((),)), (((),), ((),), (("c",),)), (((),), (("b",),), (("c",),))):
                if fits:
                    self.assertEqual(entry_of(program, lot, MADE, (1, 3), (0, ()), makes, come)[0], (0,))
                else:
                    self.check_unfit(program, (1, 3), (0, ()), makes, come, MADE, lot)
            self.check_unfit(program, (1, 3), (0, ()), makes, ((("a",),), ((),), ((),)), MADE, lot)
            outside = entry_of(program, lot, MADE, (1, 3), (0, ()), (None,), ((("a",),), ((),), (("c",),)))
            self.assertEqual(outside[0], (-1,))


class Closed(unittest.TestCase):
    def test_any_order_and_more(self):
        found = entries(TWICE, A, CROSS)
        self.assertTrue(is_closed(TWICE, A, CROSS, tuple(reversed(found))))
        self.assertTrue(is_closed(TWICE, A, CROSS, found + found[:2]))
        # One more for the start asks for nothing: nobody calls it.
        more = (((0, 1), ((0, -1), ((((), ()), (("r",), ()), (0, 0, 0, 0, 0)),))),)
        self.assertTrue(is_closed(TWICE, A, CROSS, more + found))
        # One more for the callee brings more for the start.
        inner = (((1, 2), ((0, 1), ((((), ()), ((), ()), (1, 1, 2, 3, 4)), (((), ()), ((), ("u",)), (0, 2, 2, 4, 4))))),)
        self.assertFalse(is_closed(TWICE, A, CROSS, inner + found))

    def test_things_that_are_no_families(self):
        found = entries(TWICE, A, CROSS)
        (seat, (made, rows)), rest = found[0], found[1:]
        (ins, outs, moves), behind = rows[0], rows[1:]
        for wrong in (
                ((True, 1), (made, rows)), ((0, 2), (made, rows)), ((1, 1), (made, rows)), (list(seat), (made, rows)),
                (seat, (made, rows), ()), (seat, (made,)), (seat, [made, rows]), (seat, (made + (0,), rows)),
                (seat, ((-2, 0), rows)), (seat, ((1, 0), rows)), (seat, ((True, 0), rows)), (seat, (made, rows + rows)),
                (seat, (made, ())), (seat, (made, ((ins, outs),) + behind)), (seat, (made, ((ins, outs, moves[1:]),) + behind)),
                (seat, (made, ((ins, outs, (5,) + moves[1:]),) + behind)),
                (seat, (made, ((ins, outs, (-1,) + moves[1:]),) + behind)),
                (seat, (made, ((ins, outs, (True,) + moves[1:]),) + behind)),
                (seat, (made, ((ins, (("r",), ("r",)), moves),) + behind)),
                (seat, (made, ((ins, (("u",), ()), moves),) + behind)),
                (seat, (made, ((ins, (("r", "r"), ()), moves),) + behind)),
                (seat, (made, (((("r",), ()), outs, moves),) + behind)), (seat, None), None, seat, 0, "ab",
                (None, (made, rows)), (0, (made, rows)), ("ab", (made, rows)), ((0,), (made, rows)),
                ((0, 1, 0), (made, rows)), (("a", "b"), (made, rows)), (((0, 1),), (made, rows)),
        ):
            self.assertIs(is_closed(TWICE, A, CROSS, (wrong,) + found), False, wrong)
        self.assertTrue(is_closed(TWICE, A, CROSS, ((seat, (made, rows)),) + rest))
        self.assertFalse(is_closed(TWICE, A, CROSS, list(found)))


def plain_triple(program, tree, lot, home):
    """The least triple of this RUN, by what is alive at each MOMENT."""
    many = len(events(program, tree))
    values = makes_of(program, tree, lot)
    lasts = {value: last_moment(program, tree, value) for value in values}
    rows = [[value for value in values if value < at and (lasts[value] or 0) >= at] for at in range(many + 1)]
    for one in values:
        for two in values:
            for moment in range(two + 1, many + 1):
                alive = rows[moment]
                if one < two and home == "region" and one in rows[two + 1] and one not in alive and two in alive:
                    return one, two, moment
                if one < two and home == "order" and one in alive and two not in alive:
                    return one, two, moment
    return None


class LeastMoments(unittest.TestCase):
    def test_strange_homes(self):
        for home in ("", "stack", "queue", "Region", "orders", "cell"):
            with self.assertRaises(CanNot):
                least_moment(TWICE, A, home)

    def test_told_of_later_points(self):
        names = ((1, "x"), (1, "y"))
        self.assertEqual(least_moment(ASKED, names, "region"), ((0, ((1, ()),)), (0, 1, 3)))
        self.assertIsNone(least_moment(ASKED, names, "order"))
        both = ((0, "x"), (0, "y"))
        self.assertIsNone(least_moment(AGAIN, both, "region"))
        self.assertEqual(least_moment(AGAIN, both, "order"), ((0, ()), (0, 1, 4)))
        self.assertEqual(least_moment(AGAIN, ((0, "p"), (0, "x")), "order"), ((0, ()), (0, 2, 3)))
        self.assertIsNone(least_moment(AGAIN, ((0, "p"),), "order"))
        self.assertIsNone(least_moment(DEEP, D, "region"))
        self.assertIsNone(least_moment(DEEP, (), "region"))
        self.assertIsNone(least_moment(LENT, ((1, "x"), (1, "y")), "region"))
        self.assertEqual(alive_at(DEEP, CHAIN, 3), (0, 2))

    def test_by_chance(self):
        chance, told = random.Random(3), 0
        for kinds in ({"procedures": 3, "rules": 3, "visits": 2, "hands": 0.6}, {"visits": 3, "hands": 0.4, "ins": 1}):
            for seed, program in clean_programs(range(110), **kinds):
                pairs = pairs_of(program)
                lot = tuple(sorted(chance.sample(pairs, min(len(pairs), chance.randint(1, 4)))))
                many = 5
                while len(plain_trees(program, 0, many)) > 80:
                    many -= 1
                for home in ("region", "order"):
                    try:
                        found = least_moment(program, lot, home)
                    except TooMany:
                        self.assertGreater(max(len(sum(part, ())) for one in program for part in one[:2]), 4)
                        continue
                    told += self.look_at(program, lot, home, found, many, seed)
        self.assertGreater(told, 50)

    def look_at(self, program, lot, home, found, many, seed):
        for tree in plain_trees(program, 0, many):
            triple = plain_triple(program, tree, lot, home)
            if triple is not None:
                self.assertEqual(found, (tree, triple), seed)
                return 1
        if found is not None:
            self.assertGreater(nodes(found[0]), many, seed)
            self.assertEqual(plain_triple(program, found[0], lot, home), found[1], seed)
        return 0


if __name__ == "__main__":
    unittest.main()
