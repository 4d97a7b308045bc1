"""PROFILES: in which visits values that are never handed on are made and used."""

from crossnest.checks import seats_of
from crossnest.errors import CanNot, Unfit
from crossnest.forms import frozen
from crossnest.quick import Profiles, is_never_handed
from crossnest.views import pairs_spoiling, views_of
from crossnest.walks import Walk

HOMES = ("cell", "stack", "queue")


def check_quick(program, lot):
    """Raise Unfit if the LOT is not quick."""
    if not is_never_handed(program, lot):
        raise Unfit()


def check_seat(program, seat):
    """Raise Unfit if there is no such SEAT."""
    if seat not in seats_of(program):
        raise Unfit()


def is_quick(program, lot):
    """Tell whether no hand has a WORD of a pair of the LOT as its other."""
    return is_never_handed(frozen(program), frozen(lot))


def profiles_of(program, lot, seat, tree):
    """Give the set of the PROFILES that the TREE has at the SEAT."""
    program, lot, seat = frozen(program), frozen(lot), frozen(seat)
    check_quick(program, lot)
    check_seat(program, seat)
    walk = Walk(program, frozen(tree), seat[0], seat[1], False)
    found = {}
    for value in walk.values_in(lot):
        pair, made = walk.pair_made(value), walk.turns[value]
        found[(pair, made)] = True
        for event, _, target in walk.readers.get(walk.targets[value], []):
            if target is None:
                found[(pair, made, walk.turns[event])] = True
    return tuple(sorted(found))


def profiles(program, lot):
    """Give, for each SEAT, the pair of it and the set of the PROFILES that some TREE has there."""
    program, lot = frozen(program), frozen(lot)
    check_quick(program, lot)
    table = Profiles(program, lot).table
    return tuple([(seat, tuple(sorted(table[seat]))) for seat in sorted(table)])


def profile_tree(program, lot, seat, profile):
    """Give the least TREE that has this PROFILE at the SEAT, None if none has."""
    program, lot, seat = frozen(program), frozen(lot), frozen(seat)
    check_quick(program, lot)
    check_seat(program, seat)
    found = Profiles(program, lot).table[seat].get(frozen(profile))
    return None if found is None else found[1]


def quick_pairs(program, lot, home):
    """Give the set of the pairs of pairs of the LOT values of which spoil the home in a RUN."""
    program, lot = frozen(program), frozen(lot)
    check_quick(program, lot)
    if home not in HOMES:
        raise CanNot()
    table = Profiles(program, lot).table
    found = {}
    for seat in sorted(table):
        for view in views_of(program, seat):
            for pair in pairs_spoiling(view, table, lot, home):
                found[pair] = True
    return tuple(sorted(found))
