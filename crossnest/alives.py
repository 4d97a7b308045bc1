"""How many values are alive at once, in all RUNS, and homes given out as one goes."""

from crossnest.alive import most_at_once
from crossnest.chances import Chances
from crossnest.checks import check_name, check_procedure
from crossnest.collars import collar_by, growing_step, path_of, way_to, wrapped
from crossnest.forms import frozen, is_number, is_tuple_of
from crossnest.grants import Grants
from crossnest.leasts import fits_procedure
from crossnest.scenes import Scenes
from crossnest.sums import components, greatest_sums, sources_of, trees_by_sum


def check_pairs(program, pairs):
    """Raise NoProcedure or NoName for the first of these pairs that is none."""
    for procedure, name in pairs:
        check_name(program, procedure, name)


def counts_by(lasts, many):
    """List, for each of so many MOMENTS, how many values are alive, out of their last MOMENTS."""
    changes = [0 for _ in range(many + 1)]
    for value, last in lasts:
        if last is not None:
            changes[value + 1] += 1
            changes[last + 1] -= 1
    found = [changes[0]]
    for change in changes[1:many]:
        found.append(found[-1] + change)
    return found


def counts_in(program, tree, lot):
    """List, for each MOMENT, how many values of the LOT are alive."""
    chances = Chances(program, tree)
    return counts_by(chances.lasts_in(lot), 1 + len(chances.walk.steps))


def counts(program, tree, lot):
    """List, for each MOMENT, how many values of the LOT are alive."""
    program, lot = frozen(program), frozen(lot)
    check_pairs(program, lot)
    return counts_in(program, frozen(tree), lot)


def sum_at_roots(scenes, sums):
    """Give the greatest sum of a RUN, None if there is none."""
    found = [sums[node] for node in scenes.roots]
    return None if None in found else max([0] + found)


def most_alive(program, lot):
    """Give the greatest number of values of the LOT alive at any spot, None if there is none."""
    program, lot = frozen(program), frozen(lot)
    check_pairs(program, lot)
    scenes = Scenes(program, lot)
    return sum_at_roots(scenes, greatest_sums(scenes.edges_for(lot)))


def fullest_spot(program, tree, lot):
    """Give the spot of a TREE with the most values of a LOT alive."""
    return tree, most_at_once(Chances(program, tree).lasts_in(lot))[1]


def alive_spot(program, lot, many):
    """Give a spot with at least many values of the LOT alive, None if there is none."""
    program, lot = frozen(program), frozen(lot)
    check_pairs(program, lot)
    scenes = Scenes(program, lot)
    sums, trees = trees_by_sum(scenes.edges_for(lot), many)
    for node in scenes.roots:
        if sums[node] >= many:
            return fullest_spot(program, trees[node], lot)
    return None


def is_spot(program, thing):
    """Tell whether thing is a pair of a TREE of the start and a number from 0."""
    if not is_tuple_of(thing, 2) or not is_number(thing[1]) or thing[1] < 0:
        return False
    return fits_procedure(program, 0, thing[0])


def has_alive(program, lot, many, thing):
    """Tell whether thing is a spot with at least many values of the LOT alive."""
    if not is_spot(program, thing):
        return False
    found = counts_in(program, thing[0], lot)
    return thing[1] < len(found) and found[thing[1]] >= many


def is_alive_spot(program, lot, many, thing):
    """Tell whether thing is a spot with at least many values of the LOT alive."""
    program, lot = frozen(program), frozen(lot)
    check_pairs(program, lot)
    return has_alive(program, lot, many, thing)


def moments_granting(program, tree, wishes):
    """List the MOMENTS at which of each pair at least as many values as wished are alive."""
    chances = Chances(program, tree)
    many = 1 + len(chances.walk.steps)
    rows = [counts_by(chances.lasts_in(((at, name),)), many) for at, name, _ in wishes]
    return [
        moment for moment in range(many)
        if all([row[moment] >= wish[2] for row, wish in zip(rows, wishes)])
    ]


def grant(program, wishes):
    """Give a spot that grants the wishes, None if there is none."""
    program, wishes = frozen(program), frozen(wishes)
    pairs = [(procedure, name) for procedure, name, _ in wishes]
    check_pairs(program, pairs)
    tree = Grants(Scenes(program, pairs), wishes).granting_tree()
    return None if tree is None else (tree, moments_granting(program, tree, wishes)[0])


def is_grant(program, wishes, thing):
    """Tell whether thing is a spot that grants the wishes."""
    program, wishes = frozen(program), frozen(wishes)
    check_pairs(program, [(procedure, name) for procedure, name, _ in wishes])
    return is_spot(program, thing) and thing[1] in moments_granting(program, thing[0], wishes)


def homes_for(lasts):
    """Give the pairs (value, home) for values with these last MOMENTS."""
    found = []
    for value, last in lasts:
        home = None
        if last is not None:
            taken = [
                other for (_, end), (_, other) in zip(lasts, found)
                if end is not None and end > value
            ]
            home = min([number for number in range(1 + len(taken)) if number not in taken])
        found.append((value, home))
    return tuple(found)


def homes_given(program, tree, lot):
    """Give the pairs (value, home) of the values of the LOT: the least home that is free."""
    program, lot = frozen(program), frozen(lot)
    check_pairs(program, lot)
    return homes_for(Chances(program, frozen(tree)).lasts_in(lot))


def is_homes(program, tree, lot, thing):
    """Tell whether thing gives the values of the LOT homes, none to two alive at one MOMENT."""
    program, lot = frozen(program), frozen(lot)
    check_pairs(program, lot)
    lasts = Chances(program, frozen(tree)).lasts_in(lot)
    if not is_tuple_of(thing, len(lasts)):
        return False
    ends = {}
    for pair, (value, last) in zip(thing, lasts):
        if not is_tuple_of(pair, 2) or not is_number(pair[0]) or pair[0] != value:
            return False
        if last is None and pair[1] is not None:
            return False
        if last is not None:
            if not is_number(pair[1]) or pair[1] < 0 or ends.get(pair[1], 0) > value:
                return False
            ends[pair[1]] = last
    return True


def most_left(program, lot, procedure, visits):
    """Give the greatest number of values of the LOT that one node of this PROCEDURE, gone to so
    often and left, has left alive with all below it; 0 if there is no such spot."""
    program, lot = frozen(program), frozen(lot)
    check_pairs(program, lot)
    check_procedure(program, procedure)
    scenes = Scenes(program, lot)
    edges = scenes.edges_for(lot)
    sums = greatest_sums(edges)
    # The root is never left: just those nodes of which others come.
    called = {node: True for told in sources_of(edges) for node in told}
    found = [0]
    for node in called:
        at, _, done, cut = scenes.marks[node][0]
        if (at, done, cut) == (procedure, visits, 0):
            found.append(sums[node])
    return None if None in found else max(found)


def pump(program, lot):
    """Give (tree, path, below) that can be pumped to ever more values of the LOT alive at once;
    None if there is a greatest number."""
    program, lot = frozen(program), frozen(lot)
    check_pairs(program, lot)
    scenes = Scenes(program, lot)
    edges = scenes.edges_for(lot)
    if sum_at_roots(scenes, greatest_sums(edges)) is not None:
        return None
    sums, trees = trees_by_sum(edges, 1)
    for members in components(sources_of(edges)):
        inside = {node: True for node in members}
        step = growing_step(edges, inside, sums)
        if step is not None:
            collar = collar_by(edges, step, inside)
            way = way_to(edges, scenes.roots, step[0], scenes.numbered())[1]
            tree = wrapped(way + collar, trees[step[0]], trees)
            return tree, path_of(way), path_of(collar)
    return None
