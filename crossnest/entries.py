"""ENTRIES: what of a PATTERN a TREE can do in the visits of a SEAT, with which values."""

from crossnest.checks import check_ports, seats_of
from crossnest.forms import frozen
from crossnest.growth import Growth
from crossnest.guesses import Guessing, spread_ins
from crossnest.plans import Plans
from crossnest.shapes import (
    has_entry_shape, has_pattern_shape, many_guesses, result_from, told_entry,
)


def is_pattern(thing):
    """Tell whether thing is a PATTERN."""
    return has_pattern_shape(thing)


def seats(program):
    """Give the set of the SEATS of the PROGRAM."""
    return tuple(seats_of(frozen(program)))


def entries(program, lot, pattern):
    """Give the set of the pairs (seat, entry) that come."""
    program, pattern = frozen(program), frozen(pattern)
    check_ports(program)
    plans, guesses = Plans(program), many_guesses(pattern)
    growth = Growth(program, Guessing(plans, frozen(lot), pattern))
    for seat in seats_of(program):
        for ins in spread_ins(plans.ports[seat[0]], 0, list(range(guesses)), guesses):
            growth.ask((seat, ins))
    growth.grow()
    found = []
    for (seat, _), results in growth.found.items():
        for result in results:
            found.append((seat, told_entry(plans.ports[seat[0]], result)))
    return tuple(sorted(found))


def entry_tree(program, lot, pattern, seat, entry):
    """Give the least TREE with this ENTRY at the SEAT, None if there is none."""
    program, pattern, seat, entry = frozen(program), frozen(pattern), frozen(seat), frozen(entry)
    check_ports(program)
    if not has_entry_shape(program, seat, pattern, entry):
        return None
    plans = Plans(program)
    growth = Growth(program, Guessing(plans, frozen(lot), pattern))
    result = result_from(plans.ports[seat[0]], entry)
    key = (seat, result[1][0][0])
    growth.ask(key)
    while result not in growth.found[key] and growth.step():
        pass
    if result not in growth.found[key]:
        return None
    return growth.found[key][result][1]


def matched(program, pattern, entry):
    """Tell how many members are matched in the RUN of a TREE with this ENTRY of the start."""
    pattern, entry = frozen(pattern), frozen(entry)
    at = 0
    for _, outs, moves in entry[1]:
        at = moves[at]
        if at < len(pattern) and pattern[at][0] == "use" and len(outs[pattern[at][1]]) > 0:
            at += 1
    return at
