"""Queues, and regions that are let go in the order made."""

from crossnest.forms import frozen
from crossnest.hunts import Showing
from crossnest.openings import least_moment
from crossnest.patterns import least_run, takes
from crossnest.piles import is_dead, lasts_of, missed_in, numbers_of, pile_rows
from crossnest.walks import run_of

QUEUE = (("make", 0), ("make", 1), ("use", 1), ("use", 0))


def rows_in_queue(walk, lot):
    """List, for each MOMENT, what lies in the queue."""

    def left_of(pile, event):
        values = walk.used_by(event)
        used = [at for at, value in enumerate(pile) if value in values]
        return pile[used[-1]:] if used else pile

    return pile_rows(walk, lot, left_of)


def queue_rows(program, tree, lot):
    """List, for each MOMENT, the tuple of what lies in the queue, from the front on."""
    return rows_in_queue(run_of(frozen(program), frozen(tree)), frozen(lot))


def missed_in_queue(program, tree, lot):
    """Give the set of the pairs (event, value) of the uses that miss."""
    walk, lot = run_of(frozen(program), frozen(tree)), frozen(lot)
    return missed_in(walk, lot, rows_in_queue(walk, lot))


def can_be_queue(program, lot):
    """Tell whether no use misses, for all RUNS."""
    return not takes(program, lot, QUEUE)


def nesting(program, lot):
    """Give the NESTING with the least TREE and the least numbers, None if there is none."""
    return least_run(program, lot, QUEUE)


def is_nesting(program, lot, thing):
    """Tell whether thing is a NESTING of the LOT."""
    program = frozen(program)
    numbers = numbers_of(program, thing, 4)
    if numbers is None:
        return False
    return Showing(run_of(program, thing[0]), frozen(lot)).fits(QUEUE, numbers)


def rows_in_order(walk, lot, lasts):
    """List, for each MOMENT, what lies in the order."""

    def left_of(pile, event):
        while pile and is_dead(lasts, pile[0], event + 1):
            pile = pile[1:]
        return pile

    return pile_rows(walk, lot, left_of)


def order_rows(program, tree, lot):
    """List, for each MOMENT, the tuple of what lies in the order, from the front on."""
    program, tree, lot = frozen(program), frozen(tree), frozen(lot)
    return rows_in_order(run_of(program, tree), lot, lasts_of(program, tree, lot))


def kept_up(program, tree, lot):
    """Give the set of the pairs (moment, value) of the values that are kept up."""
    program, tree, lot = frozen(program), frozen(tree), frozen(lot)
    lasts, found = lasts_of(program, tree, lot), []
    for moment, pile in enumerate(rows_in_order(run_of(program, tree), lot, lasts)):
        alive = [at for at, value in enumerate(pile) if not is_dead(lasts, value, moment)]
        if alive:
            found.extend([
                (moment, value) for value in pile[alive[0]:] if is_dead(lasts, value, moment)
            ])
    return tuple(sorted(found))


def can_be_order(program, lot):
    """Tell whether no value is kept up, for all RUNS."""
    return outlasting(program, lot) is None


def outlasting(program, lot):
    """Give the OUTLASTING with the least TREE and the least numbers, None if there is none."""
    return least_moment(program, lot, "order")


def is_outlasting(program, lot, thing):
    """Tell whether thing is an OUTLASTING of the LOT."""
    program, lot = frozen(program), frozen(lot)
    numbers = numbers_of(program, thing, 3)
    if numbers is None:
        return False
    event, other, moment = numbers
    walk = run_of(program, thing[0])
    values = walk.values_in(lot)
    if event not in values or other not in values or moment > len(walk.steps):
        return False
    lasts = lasts_of(program, thing[0], lot)
    return is_dead(lasts, other, moment) and not is_dead(lasts, event, moment)
