"""Stacks, and regions that are let go from their end."""

from crossnest.forms import frozen
from crossnest.hunts import Showing
from crossnest.openings import least_moment
from crossnest.patterns import least_run, takes
from crossnest.piles import is_dead, lasts_of, missed_in, numbers_of, pile_rows
from crossnest.walks import run_of

STACK = (("make", 0), ("make", 1), ("use", 0), ("use", 1))


def rows_on_stack(walk, lot):
    """List, for each MOMENT, what lies on the stack."""

    def left_of(pile, event):
        values = walk.used_by(event)
        used = [at for at, value in enumerate(pile) if value in values]
        return pile[:used[0] + 1] if used else pile

    return pile_rows(walk, lot, left_of)


def stack_rows(program, tree, lot):
    """List, for each MOMENT, the tuple of what lies on the stack, from the bottom up."""
    return rows_on_stack(run_of(frozen(program), frozen(tree)), frozen(lot))


def missed_uses(program, tree, lot):
    """Give the set of the pairs (event, value) of the uses that miss."""
    walk, lot = run_of(frozen(program), frozen(tree)), frozen(lot)
    return missed_in(walk, lot, rows_on_stack(walk, lot))


def can_be_stack(program, lot):
    """Tell whether no use misses, for all RUNS."""
    return not takes(program, lot, STACK)


def crossing(program, lot):
    """Give the CROSSING with the least TREE and the least numbers, None if there is none."""
    return least_run(program, lot, STACK)


def is_crossing(program, lot, thing):
    """Tell whether thing is a CROSSING of the LOT."""
    program = frozen(program)
    numbers = numbers_of(program, thing, 4)
    if numbers is None:
        return False
    return Showing(run_of(program, thing[0]), frozen(lot)).fits(STACK, numbers)


def rows_in_region(walk, lot, lasts):
    """List, for each MOMENT, what lies in the region."""

    def left_of(pile, event):
        while pile and is_dead(lasts, pile[-1], event + 1):
            pile = pile[:-1]
        return pile

    return pile_rows(walk, lot, left_of)


def region_rows(program, tree, lot):
    """List, for each MOMENT, the tuple of what lies in the region, from the bottom up."""
    program, tree, lot = frozen(program), frozen(tree), frozen(lot)
    return rows_in_region(run_of(program, tree), lot, lasts_of(program, tree, lot))


def too_long(program, tree, lot):
    """Give the set of the pairs (moment, value) of the values that lie too long."""
    program, tree, lot = frozen(program), frozen(tree), frozen(lot)
    lasts, found = lasts_of(program, tree, lot), []
    for moment, pile in enumerate(rows_in_region(run_of(program, tree), lot, lasts)):
        alive = [at for at, value in enumerate(pile) if not is_dead(lasts, value, moment)]
        if alive:
            found.extend([
                (moment, value) for value in pile[:alive[-1]] if is_dead(lasts, value, moment)
            ])
    return tuple(sorted(found))


def can_be_region(program, lot):
    """Tell whether no value lies too long, for all RUNS."""
    return overstay(program, lot) is None


def overstay(program, lot):
    """Give the OVERSTAY with the least TREE and the least numbers, None if there is none."""
    return least_moment(program, lot, "region")


def is_overstay(program, lot, thing):
    """Tell whether thing is an OVERSTAY of the LOT."""
    program, lot = frozen(program), frozen(lot)
    numbers = numbers_of(program, thing, 3)
    if numbers is None:
        return False
    event, other, moment = numbers
    walk = run_of(program, thing[0])
    values = walk.values_in(lot)
    if event not in values or other not in values or moment > len(walk.steps):
        return False
    lasts = lasts_of(program, thing[0], lot)
    if is_dead(lasts, event, other + 1) or is_dead(lasts, other, moment):
        return False
    return is_dead(lasts, event, moment)
