"""Point [21]: what is heard of a value, and clashes that harm nobody."""

import itertools
import unittest

from crossnest.harms import (
    asked_terms, can_be_heard, hangs_on, harmless_in, heard_events, heard_tree, shadow, shadows,
    spoilt_terms,
)
from crossnest.programs import pairs_of
from crossnest.trees import is_tree, nodes, trees_of
from tests.plain import PlainRun
from tests.samples import A, AGAIN, ASKED, BOTH, CHAIN, CROWDED, D, DEEP, LENT, ONCE, ROOMY, TWICE, chain_of
from tests.small import error_told, small_programs
from tests.test_rounds import make, plain_spoilt, row_program

GO = ("go", 0)
# The callee hands i on as o in its first visit, and makes b of it in the second one.
THROUGH = (
    (((),), (("r",),), (((1,), ((
        make((0, "i")), GO, ("hand", (0, "j"), (0, "o")), GO, make("x", (0, "i")), make("r", (0, "b")),
    ),)),)),
    ((("i",), ("j",)), (("o",), ("b",)), (
        ((), ((("hand", "o", "i"),), (make("b", "j"),))),
        ((), ((make("o"), make("y", "i")), (make("b", "j", "i"),))),
        ((), ((make("o"),), (make("b"),))),
    )),
)
# Each value is made of the one ahead, twice: there are 2 ** k of the first in the TERM of the last.
DOUBLING = [make(name, before, before) for before, name in zip("abcdefghij", "bcdefghijk")]
DOUBLE = row_program(make("a"), *DOUBLING[:9], make("r", "j"))


def plain_heard(run):
    found, waiting = set(), [value for event in run.events if event["step"][0] == "ask" for value in event["uses"]]
    while waiting:
        value = waiting.pop()
        if value not in found:
            found.add(value)
            waiting.extend(run.events[value]["uses"])
    return found


def plain_hung(run, value):
    """The values on which a value hangs."""
    found = set()
    for other in run.events[value]["uses"]:
        found |= {other} | plain_hung(run, other)
    return found


def plain_shadow(program, procedure, tree):
    """The INS that each OUT hangs on: each IN comes in with a mark of its own."""
    ins, outs, _ = program[procedure]

    def go(path, number, part, turns):
        turn = turns.get(path, 0)
        turns[path] = turn + 1
        callees, rows = program[number][2][part[0]]
        for step in rows[turn]:
            if step[0] == "go":
                go(path + (step[1],), callees[step[1]], part[1][step[1]], turns)
                continue
            slot = lambda word: (path, word) if isinstance(word, str) else (path + (word[0],), word[1])
            words = step[2] if step[0] == "make" else (step[2],)
            held[slot(step[1])] = set().union(*[held.get(slot(word), set()) for word in words])

    held, turns = {((), name): {name} for names in ins for name in names}, {}
    for _ in ins:
        go((), procedure, tree, turns)
    return tuple(sorted(
        (name, out) for names in outs for out in names for name in held.get(((), out), set())
    ))


def by_callees(program, procedure, visits, rule, chosen):
    """The SHADOW, for so many visits, of a RULE whose callees have the chosen ones."""
    ins = program[procedure][0][:visits]
    held = {name: {name} for names in ins for name in names}
    gone = {}
    for row in rule[1][:visits]:
        for step in row:
            if step[0] != "go":
                words = step[2] if step[0] == "make" else (step[2],)
                held[step[1]] = set().union(*[held.get(word, set()) for word in words])
                continue
            place, turn = step[1], gone.get(step[1], 0)
            gone[place] = turn + 1
            for out in program[rule[0][place]][1][turn]:
                told = [held[(place, name)] for name, other in chosen[place] if other == out]
                held[(place, out)] = set().union(*told)
    outs = [name for names in program[procedure][1][:visits] for name in names]
    return frozenset((name, out) for out in outs for name in held[out])


def plain_families(program, most=400):
    """All SHADOWS by PROCEDURES and numbers of visits, out of those of the callees, again and again
    until no more come; None if that is too much."""
    seats = [(at, visits + 1) for at, (ins, _, _) in enumerate(program) for visits in range(len(ins))]
    found, changed = {seat: set() for seat in seats}, True
    while changed:
        changed = False
        for procedure, visits in seats:
            for rule in program[procedure][2]:
                goes = [sum(row.count(("go", place)) for row in rule[1][:visits]) for place in range(len(rule[0]))]
                choices = [found[(callee, many)] if many else [()] for callee, many in zip(rule[0], goes)]
                if len(list(itertools.islice(itertools.product(*choices), most))) == most:
                    return None
                for chosen in itertools.product(*choices):
                    told = by_callees(program, procedure, visits, rule, chosen)
                    if told not in found[(procedure, visits)]:
                        found[(procedure, visits)] = found[(procedure, visits)] | {told}
                        changed = True
    return found


def plain_terms(run, spoilt=()):
    """The TERMS at each asking, made anew each time."""
    found = {(use, made): other for use, made, other in spoilt}

    def term(value):
        event = run.events[value]
        return (event["spot"],) + tuple(term(at) for at in sources(value))

    def sources(at):
        values = [run.at[slot] for slot in run.events[at]["slots"]]
        return [found.get((at, value), value) for value in values]

    return tuple(
        tuple(term(value) for value in sources(at))
        for at, event in enumerate(run.events) if event["step"][0] == "ask"
    )


def size_of(term):
    return 1 + sum(size_of(part) for part in term[1:])


class Plain(unittest.TestCase):
    def test_shadows(self):
        self.assertEqual(shadow(THROUGH, 1, (0, ())), (("i", "o"), ("j", "b")))
        self.assertEqual(shadow(THROUGH, 1, (1, ())), (("i", "b"), ("j", "b")))
        self.assertEqual(shadow(THROUGH, 1, (2, ())), ())
        self.assertEqual(shadows(THROUGH, 1), ((), (("i", "b"), ("j", "b")), (("i", "o"), ("j", "b"))))
        self.assertEqual(shadows(LENT, 1), ((), (("x", "y"),)))
        self.assertEqual(shadows(ASKED, 1), ((("x", "z"),), (("y", "z"),)))
        self.assertEqual(shadow(DEEP, 0, CHAIN), ())
        self.assertEqual(shadows(TWICE, 1), ((),))
        for call, rest in ((shadow, ((0, ()),)), (shadows, ())):
            for number in (-1, 2):
                self.assertEqual(error_told(call, DEEP, number, *rest), ("NoProcedure", number))
        # Not the uses count, but what hangs on what: 256 ways to hand four INS to four OUTS.
        self.assertEqual(len(shadows(CROWDED, 1)), 256)
        self.assertEqual(shadows(CROWDED, 1), shadows(ROOMY, 1))

    def test_what_can_be_heard(self):
        self.assertEqual(can_be_heard(THROUGH), ((0, "r"), (1, "b"), (1, "i"), (1, "o")))
        self.assertEqual(can_be_heard(AGAIN), ((0, "r"), (0, "x")))
        self.assertEqual(can_be_heard(ONCE), ((0, "r"), (0, "x")))
        # Only by the RULE that hands it through is i heard, if it is made at all.
        self.assertEqual(heard_tree(THROUGH, (1, "o")), (0, ((1, ()),)))
        self.assertIn(heard_tree(THROUGH, (1, "i")), ((0, ((0, ()),)), (0, ((1, ()),))))
        for pair in ((0, "x"), (1, "y"), (1, "j")):
            self.assertIsNone(heard_tree(THROUGH, pair))
        self.assertEqual(heard_tree(DEEP, (1, "d")), (0, ((0, ()),)))

    def test_one_rule_in_all_visits(self):
        # o is i by the one RULE, b is made of j by the other one: never both.
        one, other = ((), ((("hand", "o", "i"),), (make("b"),))), ((), ((make("o"),), (make("b", "j"),)))
        mixed = (THROUGH[0], THROUGH[1][:2] + ((one, other),))
        self.assertEqual(can_be_heard(mixed), ((0, "r"), (1, "b"), (1, "o")))
        self.assertIsNone(heard_tree(mixed, (1, "i")))
        self.assertEqual(heard_tree(mixed, (1, "o")), (0, ((1, ()),)))

    def test_heard_at_an_asking_only(self):
        # x is handed to r: no make uses it, the asking does.
        handed = row_program(make("x"), make("y", "x"), ("hand", "r", "x"))
        self.assertEqual(can_be_heard(handed), ((0, "x"),))
        self.assertEqual(heard_events(handed, (0, ())), (0,))
        self.assertEqual(asked_terms(handed, (0, ())), (((((), 0, 0),),),))
        self.assertEqual(heard_tree(handed, (0, "x")), (0, ()))
        self.assertIsNone(heard_tree(handed, (0, "r")))

    def test_hangs_on(self):
        self.assertTrue(hangs_on(DEEP, CHAIN, 4, 0))
        self.assertTrue(hangs_on(DEEP, CHAIN, 2, 1))
        self.assertFalse(hangs_on(DEEP, CHAIN, 1, 2))
        for value in (0, 1, 2, 3, 4):
            self.assertFalse(hangs_on(DEEP, CHAIN, value, value))
        for event, other, told in ((5, 9, 5), (9, 5, 9), (-1, 9, -1), (0, 5, 5), (0, 6, 6), (0, -1, -1), (6, 0, 6)):
            self.assertEqual(error_told(hangs_on, DEEP, CHAIN, event, other), ("NoEvent", told))
        self.assertEqual(error_told(hangs_on, LENT, (0, ((0, ()),)), 1, 0), ("NoEvent", 1))

    def test_harmless(self):
        # y is spoilt at q alone, which nobody hears.
        lot = ((0, "x"), (0, "y"))
        self.assertFalse(harmless_in(AGAIN, (0, ()), lot, 1))
        self.assertTrue(harmless_in(AGAIN, (0, ()), lot, 2))
        quiet = row_program(make("x"), make("y"), make("p", "x"), make("r", "y"))
        self.assertTrue(harmless_in(quiet, (0, ()), lot, 1))
        self.assertEqual(spoilt_terms(quiet, (0, ()), lot, 1), asked_terms(quiet, (0, ())))
        loud = row_program(make("x"), make("y"), ("hand", "r", "x"))
        self.assertFalse(harmless_in(loud, (0, ()), lot, 1))
        self.assertEqual(spoilt_terms(loud, (0, ()), lot, 1), (((((), 0, 1),),),))
        self.assertTrue(harmless_in(loud, (0, ()), (), 1))

    def test_terms(self):
        self.assertEqual(asked_terms(TWICE, BOTH), (((
            ((), 0, 4), (((0,), 1, 0), (((0,), 0, 0),)), (((1,), 1, 0), (((1,), 0, 0),)),
        ),),))
        self.assertEqual(spoilt_terms(TWICE, BOTH, A, 1), (((
            ((), 0, 4), (((0,), 1, 0), (((1,), 0, 0),)), (((1,), 1, 0), (((1,), 0, 0),)),
        ),),))
        # A source that stands there twice does so in the TERM; names ascending, visits one by one.
        two = ((((), ()), (("p", "q"), ()), (((), ((make("q"), make("p", "q", "q")), ())),)),)
        q = (((), 0, 0),)
        self.assertEqual(asked_terms(two, (0, ())), (((((), 0, 1), q, q), q), ()))

    def test_terms_that_are_too_great(self):
        # 1 + 2 ** 9 EVENTS and more: 1,023 in j, so 1,024 in r.
        self.assertEqual(size_of(asked_terms(DOUBLE, (0, ()))[0][0]), 1024)
        more = row_program(make("a"), *DOUBLING, make("r", "k"))
        self.assertEqual(error_told(asked_terms, more, (0, ())), ("TooMany",))
        self.assertEqual(error_told(spoilt_terms, more, (0, ()), (), 1), ("TooMany",))
        # Of the values with 1, 3, .. 1,023 EVENTS in their TERMS: 2,000 together, and one more.
        told = make("r", *"jihgfdbaa")
        full = row_program(make("a"), *DOUBLING[:9], told)
        self.assertEqual(size_of(asked_terms(full, (0, ()))[0][0]), 2000)
        full = row_program(make("a"), *DOUBLING[:9], make("r", *"jihgfdbaaa"))
        self.assertEqual(error_told(asked_terms, full, (0, ())), ("TooMany",))
        # What is not told does not count.
        quiet = row_program(make("a"), *DOUBLING, make("r", "a"))
        self.assertEqual(asked_terms(quiet, (0, ())), (((((), 0, 11), (((), 0, 0),)),),))
        # By other cells the TERM may be smaller, or greater.
        lot = ((0, "a"), (0, "k"))
        self.assertIsNone(error_told(asked_terms, quiet, (0, ())))
        self.assertEqual(error_told(spoilt_terms, quiet, (0, ()), lot, 1), ("TooMany",))
        self.assertIsNone(error_told(spoilt_terms, quiet, (0, ()), lot, 2))

    def test_terms_of_just_so_many(self):
        # 2 * k + 1 EVENTS in u of a chain with k nodes below the first one.
        for many in (5, 30):
            self.assertEqual(size_of(asked_terms(DEEP, chain_of(many))[0][0]), plain_size(chain_of(many)))
        most = max(many for many in range(200) if plain_size(chain_of(many)) <= 2000)
        self.assertIsNone(error_told(asked_terms, DEEP, chain_of(most)))
        self.assertEqual(error_told(asked_terms, DEEP, chain_of(most + 1)), ("TooMany",))


def plain_size(tree):
    run = PlainRun(DEEP, tree)
    sizes = []
    for event in run.events:
        sizes.append(1 + sum(sizes[run.at[slot]] for slot in event["slots"]))
    return sizes[run.at[((), "r")]]


class ForAllRuns(unittest.TestCase):
    def test_heard(self):
        deaf = 0
        for program, _, rows, most in small_programs(range(1000, 1024)):
            heard = {}
            for tree, run in rows:
                told = plain_heard(run)
                self.assertEqual(heard_events(program, tree), tuple(sorted(told)))
                for value in told:
                    heard.setdefault(run.events[value]["pair"], nodes(tree))
            found = can_be_heard(program)
            self.assertLessEqual(set(heard), set(found))
            for pair in pairs_of(program):
                tree = heard_tree(program, pair)
                self.assertEqual(pair in found, tree is not None)
                deaf += tree is None
                if tree is not None:
                    self.assertTrue(is_tree(program, 0, tree))
                    run = PlainRun(program, tree)
                    self.assertIn(pair, [run.events[value]["pair"] for value in plain_heard(run)])
                    self.assertEqual(nodes(tree), heard.get(pair, nodes(tree)))
                    self.assertTrue(pair in heard or nodes(tree) > most)
        self.assertGreater(deaf, 50)

    def test_what_hangs_on_what(self):
        for program, _, rows, _ in small_programs(range(1024, 1030)):
            for tree, run in rows[:6]:
                values = [at for at, event in enumerate(run.events) if event["pair"]][:12]
                for value in values:
                    hung = plain_hung(run, value)
                    for other in values:
                        self.assertEqual(hangs_on(program, tree, value, other), other in hung)

    def test_shadows(self):
        many = 0
        for program, _, _, _ in small_programs(range(1030, 1046)):
            families = plain_families(program)
            for procedure, (ins, _, _) in enumerate(program):
                for tree in trees_of(program, procedure, 4)[:40]:
                    self.assertEqual(shadow(program, procedure, tree), plain_shadow(program, procedure, tree))
                if families is not None:
                    told = families[(procedure, len(ins))]
                    self.assertEqual(shadows(program, procedure), tuple(sorted(tuple(sorted(one)) for one in told)))
                    many += len(told) > 2
        self.assertGreater(many, 12)

    def test_harm_and_terms(self):
        harmful, harmless = 0, 0
        for program, lot, rows, _ in small_programs(range(1042, 1054)):
            for tree, run in rows[:25]:
                heard = plain_heard(run)
                terms = plain_terms(run)
                if max([size_of(term) for visit in terms for term in visit], default=0) > 2000:
                    continue
                self.assertEqual(asked_terms(program, tree), terms)
                for many in (1, 2):
                    spoilt = plain_spoilt(run, lot, many)
                    is_harm = any(
                        run.events[use]["step"][0] == "ask" or use in heard for use, _, _ in spoilt
                    )
                    self.assertEqual(harmless_in(program, tree, lot, many), not is_harm)
                    told = plain_terms(run, spoilt)
                    if max([size_of(term) for visit in told for term in visit], default=0) > 2000:
                        self.assertEqual(error_told(spoilt_terms, program, tree, lot, many), ("TooMany",))
                        continue
                    self.assertEqual(spoilt_terms(program, tree, lot, many), told)
                    # The guarantee: something else is told exactly if it does harm.
                    self.assertEqual(told != terms, is_harm)
                    harmful += is_harm
                    harmless += not is_harm and len(spoilt) > 0
        self.assertGreater(harmful, 50)
        self.assertGreater(harmless, 20)

    def test_cells_of_deep(self):
        self.assertFalse(harmless_in(DEEP, CHAIN, D, 1))
        self.assertNotEqual(spoilt_terms(DEEP, CHAIN, D, 1), asked_terms(DEEP, CHAIN))


if __name__ == "__main__":
    unittest.main()
