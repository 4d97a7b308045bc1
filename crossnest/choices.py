"""The ENTRY that comes by a choice, and whether a family of ENTRIES is closed."""

from crossnest.checks import check_ports, seats_of
from crossnest.errors import Unfit
from crossnest.forms import frozen, is_number, is_tuple_of
from crossnest.guesses import Guessing, spread_ins
from crossnest.plans import Plans
from crossnest.shapes import (
    has_entry_shape, is_parting_of, many_guesses, matched_behind, result_from,
)
from crossnest.walks import Walk


def made_by(walk, lot, make):
    """Give the number of the EVENT that makes a value of the LOT there, None for None."""
    if make is None:
        return None
    for event in walk.values_in(lot):
        if walk.event_at(event) == make:
            return event
    raise Unfit()


class Choice:
    """A TREE at a SEAT, EVENT by EVENT, with the values of some guesses."""

    def __init__(self, walk, lot, pattern, chosen):
        self.walk, self.pattern, self.chosen = walk, pattern, chosen
        self.counted = {value: True for value in walk.values_in(lot)}
        # The guesses by the slots at which their values stand.
        self.guess_at = {}

    def move(self, event, moves):
        """Do an EVENT; tell how many members are matched behind it."""
        sources = [self.guess_at.get(slot) for slot in self.walk.sources[event]]
        if self.walk.makes_value(event):
            used = [number in sources for number in range(len(self.chosen))]
            guess = self.chosen.index(event) if event in self.chosen else None
            counts = event in self.counted
            moves = [matched_behind(self.pattern, at, guess, counts, used) for at in moves]
        else:
            guess = sources[0]
        if guess is not None:
            self.guess_at[self.walk.targets[event]] = guess
        return moves

    def row_of(self, program, seat, visit, ins):
        """Do a visit, the values coming in at these INS; give its triple (ins, outs, moves)."""
        for guess, come in enumerate(ins):
            for name in come:
                self.guess_at[(0, name)] = guess
        moves = list(range(len(self.pattern) + 1))
        for event, turn in enumerate(self.walk.turns):
            if turn == visit:
                moves = self.move(event, moves)
        names = program[seat[0]][1][visit]
        held = [self.guess_at.get((0, out)) for out in names]
        outs = []
        for number in range(len(self.chosen)):
            outs.append(tuple([out for out, told in zip(names, held) if told == number]))
        return ins, tuple(outs), tuple(moves)


def comes_in_rightly(made, guess, rows):
    """Tell whether a value made inside comes in only behind an OUT at which it stood."""
    if made < 0:
        return True
    left = False
    for visit, (ins, outs, _) in enumerate(rows):
        if len(ins[guess]) > 0 and not left:
            return False
        if visit >= made and len(outs[guess]) > 0:
            left = True
    return True


def entry_of(program, lot, pattern, seat, tree, makes, ins):
    """Give the ENTRY that the TREE has by this choice."""
    program, pattern, seat, ins = frozen(program), frozen(pattern), frozen(seat), frozen(ins)
    guesses, lot, makes = many_guesses(pattern), frozen(lot), frozen(makes)
    walk = Walk(program, frozen(tree), seat[0], seat[1], False)
    chosen = [made_by(walk, lot, make) for make in makes]
    told = [event for event in chosen if event is not None]
    if len(chosen) != guesses or len(set(told)) != len(told) or len(ins) != seat[1]:
        raise Unfit()
    names = program[seat[0]][0]
    if not all([is_parting_of(ins[visit], names[visit], guesses) for visit in range(seat[1])]):
        raise Unfit()
    choice = Choice(walk, lot, pattern, chosen)
    rows = tuple([choice.row_of(program, seat, visit, ins[visit]) for visit in range(seat[1])])
    made = tuple([-1 if event is None else walk.turns[event] for event in chosen])
    if not all([comes_in_rightly(made[guess], guess, rows) for guess in range(guesses)]):
        raise Unfit()
    return made, rows


def family_of(program, plans, pattern, thing):
    """Give a dict with, for each key (see guesses), the results that thing has; None if it is
    no tuple of pairs of a SEAT and what is shaped like an ENTRY for it."""
    if not isinstance(thing, tuple):
        return None
    family, seats = {}, seats_of(program)
    for pair in thing:
        if not is_tuple_of(pair, 2) or not is_tuple_of(pair[0], 2):
            return None
        if not all([is_number(part) for part in pair[0]]) or pair[0] not in seats:
            return None
        if not has_entry_shape(program, pair[0], pattern, pair[1]):
            return None
        result = result_from(plans.ports[pair[0][0]], pair[1])
        family.setdefault((pair[0], result[1][0][0]), {})[result] = True
    return family


def keeps_within(kind, key, family):
    """Tell whether all that comes under this key of results of a family is in it."""
    waiting, seen = [start[1] for start in kind.starts(key)], {}
    while waiting:
        state = waiting.pop()
        outcomes = kind.run(state)
        for wanted, outcome in outcomes:
            if wanted is None:
                if outcome not in family.get(key, {}):
                    return False
                continue
            for result in family.get(wanted, {}):
                met = kind.meet(outcome, result)
                if met is not None and met[1] not in seen:
                    seen[met[1]] = True
                    waiting.append(met[1])
    return True


def is_closed(program, lot, pattern, thing):
    """Tell whether thing is a closed family of pairs of a SEAT and an ENTRY."""
    program, pattern = frozen(program), frozen(pattern)
    check_ports(program)
    plans, guesses = Plans(program), many_guesses(pattern)
    family = family_of(program, plans, pattern, thing)
    if family is None:
        return False
    kind = Guessing(plans, frozen(lot), pattern)
    for seat in seats_of(program):
        for ins in spread_ins(plans.ports[seat[0]], 0, list(range(guesses)), guesses):
            if not keeps_within(kind, (seat, ins), family):
                return False
    return True
