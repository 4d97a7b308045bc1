"""A board: a PROGRAM, parts that are kept, and a RUN, changed by deeds that can be taken back."""

from crossnest.checks import check_procedure, check_rule
from crossnest.errors import CanNot, NoRule, NothingDone, Unfit
from crossnest.forms import frozen
from crossnest.goings import Going
from crossnest.layouts import does_serve, is_part
from crossnest.leasts import procedure_at
from crossnest.programs import is_clean, is_program, pairs_of
from crossnest.sights import is_seen
from crossnest.steps import with_rules

MOST_RULES = 8
MOST_STEPS = 12
MOST_NAMES = 8


def has_pairs(program, parts):
    """Tell whether a PROGRAM has all pairs of these parts."""
    pairs = {pair: True for pair in pairs_of(program)}
    return all([pair in pairs for _, _, lot in parts for pair in lot])


def check_clean(program):
    """Raise Unfit if that is no clean PROGRAM."""
    if not is_program(program) or not is_clean(program):
        raise Unfit()


def is_within_bounds(program):
    """Tell whether a PROGRAM has no more RULES, STEPS and NAMES than are let."""
    rules = [rule for _, _, rules in program for rule in rules]
    if len(rules) > MOST_RULES:
        return False
    if max([sum([len(row) for row in rule[1]]) for rule in rules]) > MOST_STEPS:
        return False
    many = {at: 0 for at in range(len(program))}
    for at, _ in pairs_of(program):
        many[at] += 1
    return max(list(many.values())) <= MOST_NAMES


class Board:
    """A PROGRAM, its parts, and a RUN as far as it has gone."""

    def __init__(self, program):
        self.source, self.held = frozen(program), ()
        # The RULES of the nodes entered, by PATHS. What stands here and in the two lists below
        # is never changed: others come in its place.
        self.rules = {}
        self.going = Going(self.source, self.rules)
        # How it stood ahead of each deed, and behind each one taken back, the last one last.
        self.past, self.coming = [], []

    def state(self):
        """Give how it stands."""
        return self.source, self.held, self.rules

    def set_state(self, state):
        """Let it stand so."""
        self.source, self.held, self.rules = state
        self.going = Going(self.source, self.rules)

    def do(self, state):
        """Let it stand so by a deed."""
        self.past.append(self.state())
        self.coming = []
        self.set_state(state)

    def choose(self, rule):
        """Let the front be entered and follow this RULE; give the EVENTS that come by it."""
        if self.going.next_node is None:
            raise CanNot()
        if not 0 <= rule < len(self.going.rules_there()):
            raise NoRule(rule)
        behind = self.going.many
        self.do((self.source, self.held, self.going.rules_with(rule)))
        return self.events()[behind:]

    def keep(self, home, number, lot):
        """Keep this part behind the others."""
        part = (home, number, frozen(lot))
        if not is_part(part) or not has_pairs(self.source, (part,)):
            raise Unfit()
        self.do((self.source, self.held + (part,), self.rules))

    def leave(self, position):
        """Keep the part at this position no more."""
        if not 0 <= position < len(self.held):
            raise CanNot()
        self.do((self.source, self.held[:position] + self.held[position + 1:], self.rules))

    def add(self, procedure, rule):
        """Give the PROCEDURE this RULE behind its others."""
        check_procedure(self.source, procedure)
        rules = self.source[procedure][2] + (frozen(rule),)
        changed = with_rules(self.source, procedure, rules)
        check_clean(changed)
        if not is_within_bounds(changed):
            raise Unfit()
        self.do((changed, self.held, self.rules))

    def strike(self, procedure, number):
        """Take the RULE of this number from the PROCEDURE."""
        check_rule(self.source, procedure, number)
        moved = {}
        for path, rule in self.rules.items():
            is_there = procedure_at(self.source, self.going.smallest, path) == procedure
            if is_there and rule == number:
                raise CanNot()
            moved[path] = rule - 1 if is_there and rule > number else rule
        rules = self.source[procedure][2]
        changed = with_rules(self.source, procedure, rules[:number] + rules[number + 1:])
        check_clean(changed)
        if not has_pairs(changed, self.held):
            raise Unfit()
        self.do((changed, self.held, moved))

    def undo(self):
        """Take back the last deed that is not taken back."""
        if len(self.past) == 0:
            raise NothingDone()
        self.coming.append(self.state())
        self.set_state(self.past.pop())

    def redo(self):
        """Do again the deed taken back last."""
        if len(self.coming) == 0:
            raise NothingDone()
        self.past.append(self.state())
        self.set_state(self.coming.pop())

    def program(self):
        """Give the PROGRAM."""
        return self.source

    def parts(self):
        """Give the tuple of the parts."""
        return self.held

    def front(self):
        """Give the PATH of the node to be entered next, None at the end."""
        return self.going.next_path()

    def known(self):
        """Give the set of the pairs (path, rule) of the nodes entered."""
        return tuple(sorted(list(self.rules.items())))

    def events(self):
        """Give the tuple of the EVENTS behind."""
        return tuple([self.going.walk.event_at(event) for event in range(self.going.many)])

    def least(self):
        """Give the least TREE that has the RULES chosen."""
        return self.going.smallest

    def alive(self):
        """Give the set of the values that are alive now."""
        return self.going.alive_by(self.going.many)

    def failing(self):
        """Give the set of the positions of the parts whose home does not serve."""
        return tuple([
            at for at, (home, number, lot) in enumerate(self.held)
            if not does_serve(self.source, home, number, lot)
        ])

    def seen(self):
        """Give the set of the positions of the parts against whose home a PAPER can be told."""
        return tuple([at for at, part in enumerate(self.held) if is_seen(self.going, part)])

    def twin(self):
        """Give a Board equal to this one, with the same deeds to be taken back or done again."""
        other = Board(self.source)
        other.set_state(self.state())
        other.past, other.coming = list(self.past), list(self.coming)
        return other

    def __eq__(self, other):
        """Tell whether other is a Board with the same PROGRAM, parts and nodes entered."""
        return (
            isinstance(other, Board) and self.source == other.source
            and self.held == other.held and self.rules == other.rules
        )
