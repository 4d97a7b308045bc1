"""Frames: what is kept in them over stops and calls, and NAMES that share a cell in each."""

from crossnest.checks import (
    check_name, check_ports, check_procedure, check_rule, own_names, pair_of, seats_of,
)
from crossnest.errors import Unfit
from crossnest.forms import frozen, is_number, is_tuple_of
from crossnest.groups import best_parting
from crossnest.growth import Growth
from crossnest.hunts import first_tree, is_taken
from crossnest.leasts import fits_procedure
from crossnest.owners import Clashing, Keeping
from crossnest.patterns import pattern_of
from crossnest.plans import Plans
from crossnest.walks import run_of


def check_own_name(program, procedure, rule, name):
    """Raise NoProcedure, NoRule, NoName or TooMany, as these are asked."""
    check_rule(program, procedure, rule)
    check_name(program, procedure, name)
    check_ports(program)


def last_station(program, procedure, rule, name):
    """Give a pair (station, TREE): the last station at which the NAME is kept, and a TREE with a
    RUN that shows it; None if there is none."""
    kind = Keeping(Plans(program), procedure, rule, name)
    growth, key = Growth(program, kind), kind.start_key()
    growth.ask(key)
    growth.grow()
    best = None
    for result, (_, tree) in growth.found[key].items():
        # No station is told if none of the owner's visits begins behind the make.
        if kind.is_met(result) and result[2] is not None:
            if best is None or result[2] > best[0]:
                best = (result[2], tree)
    return best


def kept_until(program, procedure, rule, name):
    """Give the last station at which the NAME is kept, None if there is none."""
    program = frozen(program)
    check_own_name(program, procedure, rule, name)
    found = last_station(program, procedure, rule, name)
    return None if found is None else found[0]


def first_station(program, procedure, rule, name):
    """Give the first station at which a value for the NAME is made; None if it is no IN, and
    this RULE makes none."""
    for visit, names in enumerate(program[procedure][0]):
        if name in names:
            return visit, 0
    for visit, row in enumerate(program[procedure][2][rule][1]):
        for step, told in enumerate(row):
            if told[:2] == ("make", name):
                return visit, step + 1
    return None


def kept_at(program, procedure, rule, visit, step):
    """Give the set of the NAMES that are kept at this station."""
    program = frozen(program)
    check_rule(program, procedure, rule)
    rows = program[procedure][2][rule][1]
    if not 0 <= visit < len(rows) or not 0 <= step <= len(rows[visit]):
        raise Unfit()
    check_ports(program)
    found = []
    for name in own_names(program[procedure]):
        first = first_station(program, procedure, rule, name)
        if first is not None and first <= (visit, step):
            last = last_station(program, procedure, rule, name)
            if last is not None and (visit, step) <= last[0]:
                found.append(name)
    return tuple(found)


def value_in_frame(walk, node, name):
    """Give the value for a NAME in the frame of a node, None if there is none."""
    value = walk.set_at.get((node, name))
    return value if value is not None and walk.makes_value(value) else None


def nodes_of(walk, procedure):
    """List the nodes of a PROCEDURE."""
    return [node for node, number in enumerate(walk.procedures) if number == procedure]


def kept_run(program, procedure, rule, name):
    """Give (tree, path, value, event) that shows that the NAME is kept so long, None if it is
    never kept."""
    program = frozen(program)
    check_own_name(program, procedure, rule, name)
    found = last_station(program, procedure, rule, name)
    if found is None:
        return None
    (visit, step), tree = found
    walk = run_of(program, tree)
    users = walk.users_of_values()
    for node in nodes_of(walk, procedure):
        moment, value = walk.stood.get((node, visit, step)), value_in_frame(walk, node, name)
        if walk.rules[node] == rule and moment is not None and value in users:
            if value < moment <= users[value][-1]:
                return tree, walk.paths[node], value, users[value][-1]
    return None


def is_told_node(program, thing, many):
    """Tell whether thing is a tuple of a TREE of the start, a PATH of it, and so many numbers."""
    if not is_tuple_of(thing, 2 + many) or not isinstance(thing[1], tuple):
        return False
    if not all([is_number(number) for number in thing[1] + thing[2:]]):
        return False
    if not fits_procedure(program, 0, thing[0]):
        return False
    tree = thing[0]
    for place in thing[1]:
        if not 0 <= place < len(tree[1]):
            return False
        tree = tree[1][place]
    return True


def is_kept_run(program, procedure, rule, name, thing):
    """Tell whether thing is such a quadruple as kept_run tells."""
    program = frozen(program)
    check_own_name(program, procedure, rule, name)
    if not is_told_node(program, thing, 2):
        return False
    tree, path, value, event = thing
    walk = run_of(program, tree)
    node = walk.paths.index(path)
    if (walk.procedures[node], walk.rules[node]) != (procedure, rule):
        return False
    if value_in_frame(walk, node, name) != value:
        return False
    found = last_station(program, procedure, rule, name)
    if found is None:
        return False
    moment = walk.stood.get((node,) + found[0])
    if moment is None or not value < moment <= event:
        return False
    return event in walk.users_of_values().get(value, [])


def stations_of(rule):
    """List the stations of a RULE."""
    return [(visit, step) for visit, row in enumerate(rule[1]) for step in range(len(row) + 1)]


def dropping(program, procedure, rule):
    """Give the least station from which on nothing is kept, None if there is none."""
    stations, at = stations_of(program[procedure][2][rule]), 0
    for name in own_names(program[procedure]):
        last = last_station(program, procedure, rule, name)
        if last is not None:
            at = max(at, 1 + stations.index(last[0]))
    return stations[at] if at < len(stations) else None


def drop_at(program, procedure, rule):
    """Give the least station from which on nothing is kept, None if there is none."""
    program = frozen(program)
    check_rule(program, procedure, rule)
    check_ports(program)
    return dropping(program, procedure, rule)


def tails(program):
    """Give the set of the quadruples of the goes at which nothing is kept any more."""
    program = frozen(program)
    check_ports(program)
    found = []
    for procedure, (_, _, rules) in enumerate(program):
        for number, rule in enumerate(rules):
            drop = dropping(program, procedure, number)
            for visit, row in enumerate(rule[1]):
                for step, told in enumerate(row):
                    if told[0] == "go" and drop is not None and drop <= (visit, step):
                        found.append((procedure, number, visit, step))
    return tuple(found)


def one_frame(program, procedure):
    """Tell whether one frame serves all nodes of the PROCEDURE."""
    program = frozen(program)
    check_procedure(program, procedure)
    check_ports(program)
    cell = pattern_of("cell", 1)
    return not any([
        is_taken(program, ((procedure, name),), cell) for name in own_names(program[procedure])
    ])


def check_both_names(program, procedure, name, other):
    """Raise NoProcedure, NoName or TooMany, as these are asked."""
    check_name(program, procedure, name)
    check_name(program, procedure, other)
    check_ports(program)


def clash_tree(program, procedure, name, other):
    """Give a TREE with a RUN in which both NAMES clash, None if there is none."""
    for one, more in ((name, other), (other, name)):
        kind = Clashing(Plans(program), procedure, one, more)
        tree = first_tree(Growth(program, kind))
        if tree is not None:
            return tree
    return None


def frame_clash(program, procedure, name, other):
    """Give (tree, path, made, later, use) that shows that both NAMES need a cell of their own,
    None if one cell in each frame does."""
    program = frozen(program)
    check_both_names(program, procedure, name, other)
    tree = None if name == other else clash_tree(program, procedure, name, other)
    if tree is None:
        return None
    walk = run_of(program, tree)
    users = walk.users_of_values()
    for node in nodes_of(walk, procedure):
        values = [value_in_frame(walk, node, one) for one in (name, other)]
        if None not in values and min(values) in users and users[min(values)][-1] > max(values):
            return tree, walk.paths[node], min(values), max(values), users[min(values)][-1]
    return None


def is_frame_clash(program, procedure, name, other, thing):
    """Tell whether thing is such a quintuple as frame_clash tells."""
    program = frozen(program)
    check_both_names(program, procedure, name, other)
    if not is_told_node(program, thing, 3) or name == other:
        return False
    tree, path, made, later, use = thing
    walk = run_of(program, tree)
    node = walk.paths.index(path)
    if walk.procedures[node] != procedure or not made < later < use:
        return False
    values = [value_in_frame(walk, node, one) for one in (name, other)]
    if None in values or sorted(values) != [made, later]:
        return False
    return use in walk.users_of_values().get(made, [])


def made_names(program, procedure):
    """List the NAMES of a PROCEDURE for which some RUN makes a value, ascending."""
    found = {}
    for number, many in seats_of(program):
        for rule in program[number][2]:
            for step in [step for row in rule[1][:many] for step in row]:
                if step[0] == "make":
                    at, name = pair_of(number, rule, step[1])
                    if at == procedure:
                        found[name] = True
    return sorted(found)


def frame_cells(program, procedure):
    """Give the sets of NAMES that have one cell each: as few as can be, of such the least."""
    program = frozen(program)
    check_procedure(program, procedure)
    check_ports(program)
    names, clashing = made_names(program, procedure), {}
    for at, name in enumerate(names):
        for other in range(at):
            clashes = clash_tree(program, procedure, names[other], name) is not None
            clashing[(other, at)] = clashes

    def may_join(group, at):
        return not any([clashing[(one, at)] for one in group])

    groups = best_parting(len(names), may_join, lambda groups: 0)
    return tuple([tuple([names[at] for at in group]) for group in groups])
