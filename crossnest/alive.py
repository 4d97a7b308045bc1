"""Which values are alive at a MOMENT: those that some RUN with the same start still uses."""

from crossnest.chances import Chances
from crossnest.checks import check_procedure
from crossnest.errors import NoName
from crossnest.forms import frozen, is_number, is_tuple_of
from crossnest.leasts import fits_procedure
from crossnest.passing import all_passings, best_members
from crossnest.plans import Plans
from crossnest.runs import check_moment, check_value
from crossnest.streams import member_of
from crossnest.walks import run_of


def told_passing(ports, visits, member):
    """Give the PASSING that a member tells."""
    names = [ports.names[port] for row in ports.ins_by_visit[:visits] for port in row]
    found = []
    for name in sorted(names):
        does = member[1 + ports.names.index(name)]
        found.append((name, does & 1 == 1, ports.names_in(does >> 1)))
    return tuple(found)


def passing_of(program, procedure, tree, visits):
    """Give the PASSING of this TREE of the PROCEDURE."""
    program = frozen(program)
    check_procedure(program, procedure)
    plans = Plans(program)
    member = member_of(plans, (procedure, visits), frozen(tree))
    return told_passing(plans.ports[procedure], visits, member)


def passings(program, procedure, visits):
    """List the PASSINGS of all TREES of the PROCEDURE, ascending."""
    program = frozen(program)
    check_procedure(program, procedure)
    plans, seat = Plans(program), (procedure, visits)
    members = all_passings(plans, [seat])[seat]
    return sorted([told_passing(plans.ports[procedure], visits, member) for member in members])


def can_use(program, procedure, visits, names):
    """Tell whether some TREE uses, within, the value of one of these INS."""
    program, names = frozen(program), frozen(names)
    check_procedure(program, procedure)
    ins = program[procedure][0][:visits]
    for name in names:
        if not any([name in row for row in ins]):
            raise NoName(name)
    plans, seat = Plans(program), (procedure, visits)
    all_passings(plans, [])
    at = [1 + plans.ports[procedure].names.index(name) for name in names]
    best = best_members(plans, [seat])[seat]
    return any([member[number] & 1 == 1 for member in best for number in at])


def chances_of(program, tree):
    """Give the Chances of a RUN; raise TooMany if there are too many PASSINGS."""
    all_passings(Plans(program), [])
    return Chances(program, tree)


def alive_at(program, tree, number):
    """Give the set of the values that are alive at this MOMENT."""
    program, tree = frozen(program), frozen(tree)
    check_moment(run_of(program, tree), number)
    chances = chances_of(program, tree)
    values = [value for value in range(number) if chances.walk.makes_value(value)]
    return tuple([value for value in values if chances.is_alive(value, number)])


def going_on(program, tree, number, value):
    """Give a pair (TREE, event) that goes on from this MOMENT to a use, None without."""
    program, tree = frozen(program), frozen(tree)
    walk = run_of(program, tree)
    check_moment(walk, number)
    check_value(walk, value)
    chances = chances_of(program, tree)
    if value >= number:
        return None
    found = chances.tree_of_use(value, number)
    if found is None:
        return None
    used = run_of(program, found).users_of_values()[value]
    return found, min([event for event in used if event >= number])


def goes_on(walk, number, tree):
    """Tell whether tree has the same RULES at all nodes that are known at this MOMENT."""
    waiting = [(0, tree)]
    while waiting:
        node, part = waiting.pop()
        if walk.is_known(node, number):
            if part[0] != walk.rules[node]:
                return False
            waiting.extend(list(zip(walk.kids[node], part[1])))
    return True


def is_going_on(program, tree, number, value, thing):
    """Tell whether thing is such a pair as going_on tells."""
    program, tree = frozen(program), frozen(tree)
    walk = run_of(program, tree)
    check_moment(walk, number)
    check_value(walk, value)
    if not is_tuple_of(thing, 2) or not is_number(thing[1]) or not number <= thing[1]:
        return False
    if value >= number or not fits_procedure(program, 0, thing[0]):
        return False
    if not goes_on(walk, number, thing[0]):
        return False
    return thing[1] in run_of(program, thing[0]).users_of_values().get(value, [])


def last_moment(program, tree, value):
    """Give the greatest MOMENT at which the value is alive, None if there is none."""
    program, tree = frozen(program), frozen(tree)
    check_value(run_of(program, tree), value)
    return chances_of(program, tree).last_of(value)


def both_alive(program, tree, lot):
    """Give the set of the pairs of values of this LOT that are alive at one MOMENT."""
    lasts = chances_of(frozen(program), frozen(tree)).lasts_in(frozen(lot))
    # The other one is made last: it is alive from its make on, if ever.
    return tuple([
        (value, other) for value, last in lasts for other, end in lasts
        if value < other and last is not None and end is not None and last > other
    ])


def ends_ahead(program, tree, lot):
    """Give the set of the pairs (value, other) with value dead, other alive at a MOMENT."""
    lasts = chances_of(frozen(program), frozen(tree)).lasts_in(frozen(lot))
    return tuple([
        (value, other) for value, last in lasts for other, end in lasts
        if end is not None and end > value and (last is None or last < end)
    ])


def most_at_once(lasts):
    """Give the greatest number of values alive at a MOMENT, and the least such one, out of the
    pairs (value, its last MOMENT)."""
    changes = {}
    for value, last in lasts:
        if last is not None:
            changes[value + 1] = changes.get(value + 1, 0) + 1
            changes[last + 1] = changes.get(last + 1, 0) - 1
    many, best = 0, (0, 0)
    for moment in sorted(changes):
        many += changes[moment]
        if many > best[0]:
            best = (many, moment)
    return best


def most_alive_in(program, tree, lot):
    """Give the greatest number of values of this LOT alive at a MOMENT, and the least such one."""
    return most_at_once(chances_of(frozen(program), frozen(tree)).lasts_in(frozen(lot)))
