"""What lies on a stack, in a queue, in a region or an order, MOMENT by MOMENT of a RUN.

A pile is a tuple of values, as they were put there: a stack and a region from the bottom up, a
queue and an order from the front on.
"""

from crossnest.alive import chances_of
from crossnest.forms import is_number, is_tuple_of
from crossnest.leasts import fits_procedure


def pile_rows(walk, lot, left_of):
    """List, for each MOMENT, the pile; left_of(pile, event) is what an EVENT leaves of a pile."""
    counted = {value: True for value in walk.values_in(lot)}
    pile, rows = (), [()]
    for event in range(len(walk.steps)):
        pile = left_of(pile, event)
        if event in counted:
            pile = pile + (event,)
        rows.append(pile)
    return rows


def missed_in(walk, lot, rows):
    """Give the set of the pairs (event, value) of the uses of what does not lie there any more."""
    found, users = [], walk.users_of_values()
    for value in walk.values_in(lot):
        for event in users.get(value, []):
            if value not in rows[event]:
                found.append((event, value))
    return tuple(sorted(found))


def lasts_of(program, tree, lot):
    """Give a dict with the last MOMENT of each value of the LOT; raise TooMany as [7] does."""
    return dict(chances_of(program, tree).lasts_in(lot))


def is_dead(lasts, value, moment):
    """Tell whether a value that is made by then is dead at a MOMENT."""
    return lasts[value] is None or lasts[value] < moment


def numbers_of(program, thing, many):
    """Give the numbers of thing, if it is a pair of a TREE and so many numbers that ascend."""
    if not is_tuple_of(thing, 2) or not is_tuple_of(thing[1], many):
        return None
    if not all([is_number(number) for number in thing[1]]):
        return None
    if not all([thing[1][at] < thing[1][at + 1] for at in range(many - 1)]):
        return None
    return thing[1] if fits_procedure(program, 0, thing[0]) else None
