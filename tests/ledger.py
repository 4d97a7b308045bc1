"""An own ledger of a Board: deeds and looks, each made anew out of the document's words."""

from crossnest.alive import alive_at
from crossnest.errors import CanNot, NoProcedure, NoRule, NothingDone, Unfit
from crossnest.layouts import serves
from crossnest.programs import is_clean, is_program, pairs_of
from crossnest.trees import least_tree
from tests.plain import PlainRun
from tests.test_layouts import plain_papers

COUNTED = ("round", "homes")
OTHERS = ("cell", "stack", "queue", "region", "order", "heap")


def changed_rules(program, procedure, rules):
    ins, outs, _ = program[procedure]
    return program[:procedure] + ((ins, outs, tuple(rules)),) + program[procedure + 1:]


def is_good_part(program, home, number, lot):
    if home in COUNTED and not 1 <= number <= 6 or home in OTHERS and number != 0:
        return False
    if home not in COUNTED + OTHERS or not lot:
        return False
    return list(lot) == sorted(set(lot)) and set(lot) <= set(pairs_of(program))


class Ledger:
    """The same deeds and looks as a Board has, each state told by (PROGRAM, parts, known)."""

    def __init__(self, program):
        self.states, self.at = [(program, (), ())], 0

    def now(self):
        return self.states[self.at]

    def do(self, state):
        self.states = self.states[:self.at + 1] + [state]
        self.at += 1

    def program(self):
        return self.now()[0]

    def parts(self):
        return self.now()[1]

    def known(self):
        return tuple(sorted(self.now()[2]))

    def least(self):
        program, known = self.program(), dict(self.now()[2])

        def filled(path, procedure):
            if path not in known:
                return least_tree(program, procedure)
            callees = program[procedure][2][known[path]][0]
            return known[path], tuple(filled(path + (place,), callee) for place, callee in enumerate(callees))

        return filled((), 0)

    def run(self):
        """The RUN of least, how many EVENTS are behind, and the front."""
        run, known = PlainRun(self.program(), self.least()), dict(self.now()[2])
        for path, first in run.first.items():
            if path not in known:
                return run, max(0, first), path
        return run, len(run.events), None

    def front(self):
        return self.run()[2]

    def events(self):
        run, behind, _ = self.run()
        return tuple(event["spot"] for event in run.events[:behind])

    def choose(self, rule):
        front = self.front()
        if front is None:
            raise CanNot()
        program, procedure, part = self.program(), 0, self.least()
        for place in front:
            procedure, part = program[procedure][2][part[0]][0][place], part[1][place]
        if not 0 <= rule < len(program[procedure][2]):
            raise NoRule(rule)
        behind = len(self.events())
        self.do((program, self.parts(), self.now()[2] + ((front, rule),)))
        return self.events()[behind:]

    def keep(self, home, number, lot):
        if not is_good_part(self.program(), home, number, lot):
            raise Unfit()
        self.do((self.program(), self.parts() + ((home, number, lot),), self.now()[2]))

    def leave(self, position):
        parts = self.parts()
        if not 0 <= position < len(parts):
            raise CanNot()
        self.do((self.program(), parts[:position] + parts[position + 1:], self.now()[2]))

    def add(self, procedure, rule):
        program = self.program()
        if not 0 <= procedure < len(program):
            raise NoProcedure(procedure)
        told = changed_rules(program, procedure, program[procedure][2] + (rule,))
        if not is_program(told) or not is_clean(told):
            raise Unfit()
        names = [pair[0] for pair in pairs_of(told)]
        if (sum(len(rules) for _, _, rules in told) > 8 or max(names.count(at) for at in range(len(told))) > 8
                or any(sum(map(len, rows)) > 12 for _, _, rules in told for _, rows in rules)):
            raise Unfit()
        self.do((told, self.parts(), self.now()[2]))

    def strike(self, procedure, number):
        program, least = self.program(), self.least()
        if not 0 <= procedure < len(program):
            raise NoProcedure(procedure)
        rules = program[procedure][2]
        if not 0 <= number < len(rules):
            raise NoRule(number)
        moved = []
        for path, rule in self.now()[2]:
            at, part = 0, least
            for place in path:
                at, part = program[at][2][part[0]][0][place], part[1][place]
            if at == procedure and rule == number:
                raise CanNot()
            moved.append((path, rule - (at == procedure and rule > number)))
        told = changed_rules(program, procedure, rules[:number] + rules[number + 1:])
        if not is_program(told) or not is_clean(told):
            raise Unfit()
        if not {pair for _, _, lot in self.parts() for pair in lot} <= set(pairs_of(told)):
            raise Unfit()
        self.do((told, self.parts(), tuple(moved)))

    def undo(self):
        if self.at == 0:
            raise NothingDone()
        self.at -= 1

    def redo(self):
        if self.at + 1 == len(self.states):
            raise NothingDone()
        self.at += 1

    def alive(self):
        return alive_at(self.program(), self.least(), self.run()[1])

    def failing(self):
        return tuple(
            at for at, (home, number, lot) in enumerate(self.parts())
            if not serves(self.program(), home, number, lot)
        )

    def seen(self):
        run, behind, _ = self.run()
        found, least = [], self.least()
        for at, (home, number, lot) in enumerate(self.parts()):
            if home == "heap":
                continue
            late = behind if home in ("region", "order", "homes") else behind - 1
            papers = plain_papers(self.program(), least, run, home, number, lot)
            if any(numbers[-1] <= late for numbers in papers):
                found.append(at)
        return tuple(found)

    def looks(self):
        return (
            self.program(), self.parts(), self.front(), self.known(), self.events(), self.least(), self.alive(),
            self.failing(), self.seen(),
        )
