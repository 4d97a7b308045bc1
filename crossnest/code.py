"""CODE: what a PROGRAM does with homes, handles of values being kept in frames."""

from crossnest.checks import check_name, own_names, pair_of
from crossnest.errors import CanNot, Unfit
from crossnest.forms import frozen
from crossnest.layouts import has_layout, pairs_made
from crossnest.playing import Playing
from crossnest.walks import run_of

HOMES = ("cell", "round", "stack", "queue", "heap")


def holdings(program):
    """Give a dict with, for each pair, the ORIGINS that it may hold, ascending."""
    pairs = [(at, name) for at in range(len(program)) for name in own_names(program[at])]
    made = {pair: True for pair in pairs_made(program)}
    held = {pair: {pair: True} if pair in made else {} for pair in pairs}
    hands = [
        (pair_of(at, rule, step[1]), pair_of(at, rule, step[2]))
        for at, (_, _, rules) in enumerate(program) for rule in rules
        for row in rule[1] for step in row if step[0] == "hand"
    ]
    changed = True
    while changed:
        changed = False
        for word, other in hands:
            more = [pair for pair in held[other] if pair not in held[word]]
            for pair in more:
                held[word][pair] = True
                changed = True
    return {pair: sorted(told) for pair, told in held.items()}


def may_hold(program, procedure, name):
    """Give the set of the ORIGINS that this pair may hold."""
    program = frozen(program)
    check_name(program, procedure, name)
    return tuple(holdings(program)[(procedure, name)])


def check_layout(program, layout):
    """Raise Unfit if that is no LAYOUT, CanNot if a part has a home that asks what is alive."""
    if not has_layout(program, layout):
        raise Unfit()
    if not all([home in HOMES for home, _, _ in layout]):
        raise CanNot()


class Coding:
    """A PROGRAM with a LAYOUT: which part each value has, and which pairs are bare."""

    def __init__(self, program, layout):
        check_layout(program, layout)
        self.source, self.layout = program, layout
        # By ORIGIN the number of its part, by bare pair that of its cell.
        self.parts_by = {pair: at for at, part in enumerate(layout) for pair in part[2]}
        self.cells = {}
        for pair, told in holdings(program).items():
            parts = sorted({self.parts_by[origin] for origin in told})
            if len(parts) == 1 and layout[parts[0]][0] == "cell":
                self.cells[pair] = parts[0]

    def source_of(self, pair, word):
        """Give the SOURCE that tells a WORD of this pair."""
        return (self.cells[pair], None) if pair in self.cells else (None, word)

    def coded_step(self, at, rule, step):
        """Give the STEP of CODE for a STEP; None for a hand to a bare pair."""
        if step[0] == "go":
            return step
        pair = pair_of(at, rule, step[1])
        word = None if pair in self.cells else step[1]
        if step[0] == "make":
            sources = [self.source_of(pair_of(at, rule, other), other) for other in step[2]]
            return "make", self.parts_by[pair], word, tuple(sources)
        if word is None:
            return None
        return "hand", word, self.source_of(pair_of(at, rule, step[2]), step[2])

    def coded_rule(self, at, rule):
        """Give a RULE of the CODE."""
        rows = []
        for row in rule[1]:
            steps = [self.coded_step(at, rule, step) for step in row]
            rows.append(tuple([step for step in steps if step is not None]))
        return rule[0], tuple(rows)

    def told_code(self):
        """Give the CODE."""
        homes = [(home, number) for home, number, _ in self.layout]
        procedures = [
            tuple([self.coded_rule(at, rule) for rule in rules])
            for at, (_, _, rules) in enumerate(self.source)
        ]
        asks = [
            tuple([self.source_of((0, name), name) for name in names]) for names in self.source[0][1]
        ]
        return tuple(homes), tuple(procedures), tuple(asks)


def bare(program, layout):
    """Give the set of the bare pairs."""
    return tuple(sorted(Coding(frozen(program), frozen(layout)).cells))


def frame_names(program, layout):
    """Give, for each PROCEDURE, the set of the names of its kept pairs."""
    coding = Coding(frozen(program), frozen(layout))
    return tuple([
        tuple([name for name in own_names(procedure) if (at, name) not in coding.cells])
        for at, procedure in enumerate(coding.source)
    ])


def code_of(program, layout):
    """Give the CODE."""
    return Coding(frozen(program), frozen(layout)).told_code()


def is_same(thing, other):
    """Tell whether thing is just as other, which is made of tuples, numbers, strings and None."""
    if isinstance(other, tuple):
        if not isinstance(thing, tuple) or len(thing) != len(other):
            return False
        return all([is_same(part, more) for part, more in zip(thing, other)])
    if isinstance(thing, bool) or isinstance(thing, (tuple, list)):
        return False
    return thing == other


def is_code(program, layout, thing):
    """Tell whether thing is the CODE."""
    return is_same(thing, Coding(frozen(program), frozen(layout)).told_code())


def run_code(code, tree):
    """List, for each make and each asking, the tuple of what it reads."""
    return Playing(frozen(code), frozen(tree)).play()


def reads_due(program, tree):
    """List, for each make and each asking, the tuple of what its words have in the RUN."""
    walk = run_of(frozen(program), frozen(tree))
    numbers, found = {}, []
    for event, step in enumerate(walk.steps):
        if step[0] != "hand":
            found.append(tuple([numbers[walk.value_at[slot]] for slot in walk.sources[event]]))
        if step[0] == "make":
            numbers[event] = len(numbers)
    return found
