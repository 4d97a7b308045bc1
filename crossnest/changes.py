"""Programs that are changed: RULES more or less, NAMES that are others, RULES that are inlined."""

from crossnest.checks import (
    check_name, check_procedure, check_rule, goes_in, local_names, own_names,
)
from crossnest.errors import CanNot, Unfit
from crossnest.forms import frozen
from crossnest.lots import check_asked, does_fit
from crossnest.programs import is_program
from crossnest.steps import reworded, with_rules

LETTERS = "abcdefghijklmnopqrstuvwxyz"
MOST_CALLEES = 3


def with_rule(program, procedure, rule):
    """Give the PROGRAM with this RULE behind the others of the PROCEDURE."""
    program, rule = frozen(program), frozen(rule)
    check_procedure(program, procedure)
    changed = with_rules(program, procedure, program[procedure][2] + (rule,))
    if not is_program(changed):
        raise Unfit()
    return changed


def without_rule(program, procedure, rule):
    """Give the PROGRAM without the RULE of this number."""
    program = frozen(program)
    check_rule(program, procedure, rule)
    rules = program[procedure][2]
    if len(rules) == 1:
        raise CanNot()
    return with_rules(program, procedure, rules[:rule] + rules[rule + 1:])


def check_new_name(program, procedure, other):
    """Raise Unfit if the PROCEDURE has such a NAME already."""
    if other in own_names(program[procedure]):
        raise Unfit()


def renamed_sets(sets, name, other):
    """Give sets of NAMES with a NAME called by another one."""
    return tuple([
        tuple(sorted([other if one == name else one for one in names])) for names in sets
    ])


def renamed_rule(rule, at, procedure, name, other):
    """Give a RULE of the PROCEDURE at, a NAME of a PROCEDURE being called by another one."""

    def told(word):
        if isinstance(word, str):
            return other if at == procedure and word == name else word
        is_there = rule[0][word[0]] == procedure and word[1] == name
        return (word[0], other) if is_there else word

    return reworded(rule, told)


def renamed(program, procedure, name, other):
    """Give the PROGRAM in which this NAME of the PROCEDURE is called other, everywhere."""
    program = frozen(program)
    check_name(program, procedure, name)
    check_new_name(program, procedure, other)
    found = []
    for at, (ins, outs, rules) in enumerate(program):
        if at == procedure:
            ins, outs = renamed_sets(ins, name, other), renamed_sets(outs, name, other)
        rules = [renamed_rule(rule, at, procedure, name, other) for rule in rules]
        found.append((ins, outs, tuple(rules)))
    return tuple(found)


def split_name(program, procedure, rule, name, other):
    """Give the PROGRAM in which a local of this RULE is called other, in this RULE alone."""
    program = frozen(program)
    check_rule(program, procedure, rule)
    check_name(program, procedure, name)
    rules = program[procedure][2]
    if name not in local_names(program[procedure], rules[rule]):
        raise Unfit()
    check_new_name(program, procedure, other)

    def told(word):
        return other if word == name else word

    changed = reworded(rules[rule], told)
    return with_rules(program, procedure, rules[:rule] + (changed,) + rules[rule + 1:])


def name_of_number(number):
    """Give the string of letters of this number: a, b, .., z, aa, .."""
    name = ""
    while number >= 0:
        name = LETTERS[number % 26] + name
        number = number // 26 - 1
    return name


def names_given(program, procedure, callee):
    """Give a dict with the new NAME of each NAME of a callee that is put into a PROCEDURE."""
    taken = {name: True for name in own_names(program[procedure])}
    found, number = {}, 0
    for name in own_names(program[callee]):
        while name_of_number(number) in taken:
            number += 1
        found[name] = name_of_number(number)
        number += 1
    return found


class Inlining:
    """A RULE of a PROCEDURE that is inlined at one of its places."""

    def __init__(self, program, procedure, rule, place):
        check_rule(program, procedure, rule)
        self.callees, self.rows = program[procedure][2][rule]
        if not 0 <= place < len(self.callees):
            raise Unfit()
        self.procedure, self.rule, self.place = procedure, rule, place
        self.callee = self.callees[place]
        self.inner = program[self.callee][2]
        self.names = names_given(program, procedure, self.callee)
        # How many visits of the callee are put in.
        self.many = goes_in((self.callees, self.rows), len(self.rows))[place]

    def left_places(self, number):
        """List those places of a RULE of the callee to which the rows put in go."""
        goes = goes_in(self.inner[number], self.many)
        return [place for place, many in enumerate(goes) if many > 0]

    def own_word(self, word):
        """Give what becomes of a WORD of the RULE."""
        if isinstance(word, str):
            return word
        place, name = word
        return self.names[name] if place == self.place else (self.own_place(place), name)

    def own_place(self, place):
        """Give what becomes of another place of the RULE."""
        return place if place < self.place else place - 1

    def own_step(self, step):
        """Give what becomes of a go to another place, other STEPS as they are."""
        return ("go", self.own_place(step[1])) if step[0] == "go" else step

    def inner_rows(self, number):
        """List the rows of a RULE of the callee as they are put in."""
        places = self.left_places(number)
        moved = {place: len(self.callees) - 1 + at for at, place in enumerate(places)}

        def told(word):
            if isinstance(word, str):
                return self.names[word]
            if word[0] not in moved:
                raise CanNot()
            return moved[word[0]], word[1]

        rule = reworded((self.inner[number][0], self.inner[number][1][:self.many]), told)
        return [
            [("go", moved[step[1]]) if step[0] == "go" else step for step in row] for row in rule[1]
        ]

    def rule_with(self, number):
        """Give the RULE with a RULE of the callee put in; raise CanNot if it can not be."""
        inner_callees = [self.inner[number][0][place] for place in self.left_places(number)]
        callees = self.callees[:self.place] + self.callees[self.place + 1:] + tuple(inner_callees)
        if len(callees) > MOST_CALLEES:
            raise CanNot()

        def told(word):
            return self.own_word(word)

        outer = reworded((self.callees, self.rows), told)
        inner, rows, turn = self.inner_rows(number), [], 0
        for row in outer[1]:
            steps = []
            for step in row:
                if step == ("go", self.place):
                    steps.extend(inner[turn])
                    turn += 1
                else:
                    steps.append(self.own_step(step))
            rows.append(tuple(steps))
        return callees, tuple(rows)

    def new_rules(self):
        """List the RULES that come in the place of the one; raise CanNot if they can not."""
        return [self.rule_with(number) for number in range(len(self.inner))]

    def unfolded(self, at, tree):
        """Give the number that the RULE of a node of the PROCEDURE at gets, and the pairs
        (procedure, TREE) below it."""
        rule, trees = tree
        if at != self.procedure or rule < self.rule:
            return rule, None
        if rule > self.rule:
            return rule + len(self.inner) - 1, None
        number, parts = trees[self.place]
        below = list(zip(self.callees, trees))
        del below[self.place]
        inner = self.inner[number][0]
        below.extend([(inner[place], parts[place]) for place in self.left_places(number)])
        return self.rule + number, below


def inlined(program, procedure, rule, place):
    """Give the PROGRAM with this RULE inlined at this place."""
    program = frozen(program)
    found = tuple(Inlining(program, procedure, rule, place).new_rules())
    rules = program[procedure][2]
    return with_rules(program, procedure, rules[:rule] + found + rules[rule + 1:])


def new_names(program, procedure, rule, place):
    """Give the set of the pairs (name, new NAME)."""
    told = Inlining(frozen(program), procedure, rule, place).names
    return tuple(sorted(list(told.items())))


def tree_inlined(program, procedure, rule, place, tree):
    """Give what becomes of this TREE of the start by inlining."""
    program, tree = frozen(program), frozen(tree)
    inlining = Inlining(program, procedure, rule, place)
    inlining.new_rules()
    # Each row: the number of the RULE and the rows of the TREES below it.
    rows, waiting = [], [(0, tree, None)]
    while waiting:
        at, part, caller = waiting.pop()
        number, below = inlining.unfolded(at, part)
        if below is None:
            below = list(zip(program[at][2][part[0]][0], part[1]))
        if caller is not None:
            rows[caller][1].append(len(rows))
        waiting.extend([(callee, kid, len(rows)) for callee, kid in reversed(below)])
        rows.append((number, []))
    done = [() for _ in rows]
    for at in reversed(range(len(rows))):
        number, below = rows[at]
        done[at] = (number, tuple([done[kid] for kid in below]))
    return done[0]


def turned(program, other, home, lots):
    """Give the tuple of those LOTS that fit the home in just one of both PROGRAMS."""
    program, other, lots = frozen(program), frozen(other), frozen(lots)
    for lot in lots:
        for told in (program, other):
            check_asked(told, home, lot)
    check_asked(program, home, ())
    return tuple([lot for lot in lots if does_fit(program, home, lot) != does_fit(other, home, lot)])
