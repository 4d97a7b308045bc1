"""Plain walks through TREES and RUNS, by which the tests judge the package; nothing of it is used.

Also programs made by chance: a seed tells which one.
"""

import random

LETTERS = "abcdefghijklmnop"


def names_in(sets):
    return [name for names in sets for name in names]


def plain_trees(program, procedure, many, known=None):
    """All TREES of a PROCEDURE with at most many nodes, by size."""
    known = {} if known is None else known

    def exact(number, size):
        if (number, size) not in known:
            found = []
            for at, (callees, _) in enumerate(program[number][2]):
                rows = [((), size - 1)]
                for callee in callees:
                    more = []
                    for row, left in rows:
                        for part in range(1, left + 1):
                            more.extend((row + (tree,), left - part) for tree in exact(callee, part))
                    rows = more
                found.extend((at, row) for row, left in rows if left == 0)
            known[(number, size)] = sorted(found)
        return known[(number, size)]

    return [tree for size in range(1, many + 1) for tree in exact(procedure, size)]


class PlainRun:
    """The EVENTS of a TREE: a list of dicts, and where each value comes to stand."""

    def __init__(self, program, tree, procedure=0, visits=None, asks=True):
        self.program, self.events = program, []
        self.at = {}
        self.gone, self.first = {}, {(): -1}
        # How many EVENTS are ahead of each STEP of each node, and of the end of its rows.
        self.turn, self.stood, self.goes = 0, {}, {}
        visits = len(program[0][0]) if visits is None else visits
        for visit in range(visits):
            self.turn = visit
            self.gone[()] = visit + 1
            self.row((), procedure, tree, visit)
            if asks:
                names = program[0][1][visit]
                self.events.append({
                    "spot": ((), visit, len(program[0][2][tree[0]][1][visit])), "step": ("ask", names),
                    "uses": sorted({self.at[((), name)] for name in names}), "pair": None,
                    "slots": [((), name) for name in names], "turn": visit,
                })

    def slot(self, path, word):
        return (path, word) if isinstance(word, str) else (path + (word[0],), word[1])

    def row(self, path, procedure, tree, visit):
        rule = self.program[procedure][2][tree[0]]
        for number, step in enumerate(rule[1][visit]):
            self.stood[(path, visit, number)] = len(self.events)
            if step[0] == "go":
                kid = path + (step[1],)
                self.first.setdefault(kid, len(self.events))
                self.goes.setdefault(kid, []).append(len(self.events))
                turn = self.gone.get(kid, 0)
                self.gone[kid] = turn + 1
                self.row(kid, rule[0][step[1]], tree[1][step[1]], turn)
                continue
            words = step[2] if step[0] == "make" else (step[2],)
            slots = [self.slot(path, word) for word in words]
            event = {
                "spot": (path, visit, number), "step": step, "slots": slots, "uses": [],
                "pair": None, "turn": self.turn, "sets": self.slot(path, step[1]),
            }
            if step[0] == "make":
                event["uses"] = sorted({self.at[slot] for slot in slots if slot in self.at})
                word = step[1]
                event["pair"] = (procedure, word) if isinstance(word, str) else (rule[0][word[0]], word[1])
                self.at[event["sets"]] = len(self.events)
            elif slots[0] in self.at:
                self.at[event["sets"]] = self.at[slots[0]]
            self.events.append(event)
        self.stood[(path, visit, len(rule[1][visit]))] = len(self.events)

    def known(self, moment):
        return {path for path, first in self.first.items() if first < moment}

    def users(self, value):
        return [at for at, event in enumerate(self.events) if value in event["uses"]]


def rule_at(tree, path):
    for place in path:
        tree = tree[1][place]
    return tree[0]


def plain_alive(program, tree, moment, trees):
    """The values that one of these TREES, going on from the MOMENT, uses."""
    run = PlainRun(program, tree)
    known = {path: rule_at(tree, path) for path in run.known(moment)}
    found = set()
    for other in trees:
        if agrees(other, known):
            later = PlainRun(program, other)
            for event in later.events[moment:]:
                found.update(value for value in event["uses"] if value < moment)
    return tuple(sorted(found))


def agrees(tree, known):
    """Whether the TREE has these RULES at these PATHS (callers are among them)."""
    for path in sorted(known):
        part = tree
        for place in path:
            part = part[1][place]
        if part[0] != known[path]:
            return False
    return True


def made_ports(chance, most_ins, most_outs, visits, start):
    names = list(LETTERS[:8])
    chance.shuffle(names)
    ins, outs = [], []
    for _ in range(visits):
        many = 0 if start else chance.randint(0, most_ins)
        ins.append(tuple(sorted(names.pop() for _ in range(min(many, max(0, len(names) - 2))))))
        many = chance.randint(1 if start else 0, most_outs)
        outs.append(tuple(sorted(names.pop() for _ in range(min(many, max(0, len(names) - 1))))))
    return tuple(ins), tuple(outs), names


def made_rule(chance, ports, procedure, most_callees, hands, callees=None):
    """A sound RULE made by chance."""
    ins, outs, rest = ports[procedure]
    many = chance.randint(0, most_callees)
    if callees is None:
        callees = tuple(chance.randrange(len(ports)) for _ in range(many))
    gone = [0] * len(callees)
    have, rows = [], []

    def source():
        return chance.choice(have) if have else None

    def set_word(row, word):
        if have and chance.random() < hands:
            row.append(("hand", word, source()))
        else:
            many = chance.choice([0, 1, 1, 2])
            row.append(("make", word, tuple(source() for _ in range(many) if have)))
        have.append(word)

    def go(row, place):
        callee = ports[callees[place]]
        turn = gone[place]
        for name in callee[0][turn]:
            set_word(row, (place, name))
        if chance.random() < 0.3 and len(row) < 8:
            extra(row)
        row.append(("go", place))
        gone[place] += 1
        have.extend((place, name) for name in callee[1][turn])

    def extra(row):
        free = [name for name in rest if name not in have]
        if free:
            set_word(row, chance.choice(free))

    for visit in range(len(ins)):
        row = []
        have.extend(ins[visit])
        for _ in range(chance.randint(0, 2)):
            extra(row)
        places = [place for place in range(len(callees)) if gone[place] < len(ports[callees[place]][0])]
        chance.shuffle(places)
        for place in places:
            last = visit + 1 == len(ins)
            if chance.random() < 0.6 or (last and gone[place] == 0):
                go(row, place)
                if gone[place] < len(ports[callees[place]][0]) and chance.random() < 0.4:
                    go(row, place)
        if chance.random() < 0.3:
            extra(row)
        for name in outs[visit]:
            set_word(row, name)
        rows.append(tuple(row))
    return callees, tuple(rows)


def made_program(seed, procedures=3, rules=2, ins=2, outs=2, visits=2, callees=2, hands=0.3):
    """A PROGRAM made by chance, sound and maybe not clean."""
    chance = random.Random(seed)
    ports = []
    for number in range(chance.randint(1, procedures)):
        ports.append(made_ports(chance, ins, outs, chance.randint(1, visits), number == 0))
    program = []
    for number in range(len(ports)):
        made = [made_rule(chance, ports, number, callees, hands) for _ in range(chance.randint(1, rules))]
        # A RULE without callees, now and then, lets TREES end.
        if chance.random() < 0.8:
            made.append(made_rule(chance, ports, number, 0, hands))
        program.append((ports[number][0], ports[number][1], tuple(made)))
    return tuple(program)


def plain_numbers(run, lot, pattern):
    """All numbers, ascending, at which a RUN takes a PATTERN, one by one."""
    events = run.events

    def fits(member, at, values):
        deed, guess = member
        if deed == "use":
            return values[guess] in events[at]["uses"]
        return events[at]["pair"] is not None and events[at]["pair"] in lot

    def search(number, first, values, told):
        if number == len(pattern):
            yield told
            return
        for at in range(first, len(events)):
            if fits(pattern[number], at, values):
                more = dict(values)
                if pattern[number][0] == "make" and pattern[number][1] is not None:
                    more[pattern[number][1]] = at
                yield from search(number + 1, at + 1, more, told + (at,))

    yield from search(0, 0, {}, ())


def plain_spans(run, lot):
    """For each value of the lot: (made, use, makes between) of each of its uses."""
    made = [at for at, event in enumerate(run.events) if event["pair"] in lot]
    return [
        (value, use, sum(value < other < use for other in made))
        for value in made for use in run.users(value)
    ]


def trees_by_depth(program, procedure, depth, most=300):
    """All TREES of a PROCEDURE with at most so many levels; None if these are too many."""
    known = {}

    def within(number, levels):
        if levels == 0:
            return []
        if (number, levels) not in known:
            found = []
            for rule, (callees, _) in enumerate(program[number][2]):
                rows = [()]
                for callee in callees:
                    parts = within(callee, levels - 1)
                    rows = [row + (tree,) for row in rows for tree in parts or []]
                    if parts is None or len(rows) > most:
                        rows = None
                        break
                if rows is None or len(found) + len(rows) > most:
                    found = None
                    break
                found.extend((rule, row) for row in rows)
            known[(number, levels)] = found
        return known[(number, levels)]

    return within(procedure, depth)


def node_at(program, tree, path):
    """The numbers of the PROCEDURE and the RULE of a node."""
    number = 0
    for place in path:
        number, tree = program[number][2][tree[0]][0][place], tree[1][place]
    return number, tree[0]


def handing_program(seed):
    """A PROGRAM of a start and a callee with two visits, whose RULES hand on most of what comes."""
    chance = random.Random(seed)

    def sets(words, have, hands):
        row = []
        for word in words:
            if chance.random() < hands:
                row.append(("hand", word, chance.choice(have)))
            else:
                row.append(("make", word, tuple(chance.sample(have, chance.randint(0, 2)))))
        return row

    def leaf():
        first = sets("ef", ["a", "b"], 0.8)
        return (), (tuple(first), tuple(sets("gh", list("abcdef"), 0.7)))

    def ring():
        have = ["a", "b"]
        first = sets([(0, "a"), (0, "b")], have, 0.8) + [("go", 0)]
        have += [(0, "e"), (0, "f")]
        first += sets("ef", have, 0.8)
        second, have = [], have + list("cdef")
        if chance.random() < 0.85:
            second = sets([(0, "c"), (0, "d")], have, 0.8) + [("go", 0)]
            have += [(0, "g"), (0, "h")]
        return (1,), (tuple(first), tuple(second + sets("gh", have, 0.8)))

    row = (
        ("make", (0, "a"), ()), ("make", (0, "b"), ()), ("go", 0), ("make", "x", ((0, "e"),)),
        ("hand", (0, "c"), chance.choice([(0, "e"), (0, "f"), (0, "a"), "x"])),
        ("hand", (0, "d"), chance.choice([(0, "f"), (0, "b")])), ("go", 0),
        ("make", "r", ((0, "g"), (0, "h"))),
    )
    rules = [leaf() for _ in range(chance.randint(1, 2))] + [ring() for _ in range(chance.randint(1, 2))]
    ports = (("a", "b"), ("c", "d")), (("e", "f"), ("g", "h"))
    return (((),), (("r",),), (((1,), (row,)),)), ports + (tuple(rules),)
