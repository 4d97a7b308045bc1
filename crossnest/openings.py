"""The least RUN with a MOMENT at which one value is dead and another one alive."""

from crossnest.chances import Chances
from crossnest.checks import check_ports, seats_of
from crossnest.cuts import Cutting
from crossnest.errors import CanNot
from crossnest.forms import frozen
from crossnest.growth import Growth
from crossnest.passing import best_members
from crossnest.plans import Plans


def cut_keys(program):
    """List the keys of the results of the start (see cuts)."""
    many = len(program[0][0])
    found = [((0, many, done, 1), (0, 0)) for done in range(many)]
    # Between two visits the last EVENT behind is an asking.
    found.extend([((0, many, done, 0), (0, 0)) for done in range(1, many)])
    return found


def is_wanted(kind, result):
    """Tell whether a result of the start has what is asked for."""
    made, _, _, first, ends = result
    if min(made) < 0 or kind.lives(ends[kind.dead]) or not kind.lives(ends[1 - kind.dead]):
        return False
    return kind.home == "order" or kind.lives(first)


def least_cut(program, lot, home):
    """Give the least TREE with such a MOMENT, None if there is none."""
    plans = Plans(program)
    kind = Cutting(plans, lot, home, best_members(plans, seats_of(program)))
    growth = Growth(program, kind)
    keys = cut_keys(program)
    for key in keys:
        growth.ask(key)
    while growth.step():
        found = [
            growth.found[key][result] for key in keys for result in growth.found[key]
            if is_wanted(kind, result)
        ]
        if found:
            return min(found)[1]
    return None


def least_triple(lasts, home):
    """Give the least triple (event, other, moment), out of the last MOMENTS of the values."""
    for event, last in lasts:
        for other, end in lasts:
            if other <= event or last is None or last <= other:
                continue
            if home == "region" and end is not None and end > last:
                return event, other, last + 1
            if home == "order":
                moment = 1 + (other if end is None else end)
                if moment <= last:
                    return event, other, moment
    return None


def least_moment(program, lot, home):
    """Give the least TREE with such a MOMENT and the least triple in its RUN, None without."""
    if home != "region" and home != "order":
        raise CanNot()
    program, lot = frozen(program), frozen(lot)
    check_ports(program)
    tree = least_cut(program, lot, home)
    if tree is None:
        return None
    return tree, least_triple(Chances(program, tree).lasts_in(lot), home)
