"""How many values are alive at once by the depth of calls."""

from crossnest.alives import check_pairs, fullest_spot, has_alive, sum_at_roots
from crossnest.collars import path_of, way_to, wrapped
from crossnest.errors import CanNot, Unfit
from crossnest.forms import frozen
from crossnest.leasts import levels_of, part_at, procedure_at, with_part
from crossnest.scenes import Scenes
from crossnest.slopes import Slopes
from crossnest.stairs import Growing, Stairs
from crossnest.sums import trees_by_sum


def stairs_to(program, lot, level):
    """Give the Stairs up to a depth."""
    scenes = Scenes(program, lot)
    stairs = Stairs(scenes, scenes.edges_for(lot))
    for _ in range(level):
        stairs.climb()
    return stairs


def height(program, lot, depth):
    """Give the greatest number of values of the LOT alive at a spot of a TREE of this depth, or
    a lesser one; None if there is no such TREE."""
    program, lot = frozen(program), frozen(lot)
    check_pairs(program, lot)
    return stairs_to(program, lot, depth).height()


def height_spot(program, lot, depth):
    """Give a spot with so many alive, None if there is no such TREE."""
    program, lot = frozen(program), frozen(lot)
    check_pairs(program, lot)
    tree = stairs_to(program, lot, depth).best_tree()
    return None if tree is None else fullest_spot(program, tree, lot)


def is_height_spot(program, lot, depth, thing):
    """Tell whether thing is such a spot."""
    program, lot = frozen(program), frozen(lot)
    check_pairs(program, lot)
    if not has_alive(program, lot, 0, thing) or levels_of(thing[0]) > depth:
        return False
    return has_alive(program, lot, stairs_to(program, lot, depth).height(), thing)


def growing_of(program, lot):
    """Give the scenes of a PROGRAM and how the sums for a LOT grow."""
    scenes = Scenes(program, lot)
    return scenes, Growing(scenes.edges_for(lot))


def power(program, lot):
    """Give the power with which the height grows: 0 if it stays the same, None if it grows
    beyond every power."""
    program, lot = frozen(program), frozen(lot)
    check_pairs(program, lot)
    scenes, growing = growing_of(program, lot)
    return growing.greatest_power(scenes.roots)


def full_depth(program, lot):
    """Give the least depth from which on the height stays the same."""
    program, lot = frozen(program), frozen(lot)
    check_pairs(program, lot)
    scenes, growing = growing_of(program, lot)
    most = sum_at_roots(scenes, growing.sums)
    if most is None:
        raise CanNot()
    stairs, level = Stairs(scenes, growing.edges), 0
    while stairs.height() != most:
        stairs.climb()
        level += 1
    return level


def steepest_root(scenes, growing):
    """Give the Slopes, and the node of the root with the greatest slope; the power is 1."""
    slopes, best = Slopes(growing), None
    for node in scenes.roots:
        if growing.power_of(node) == 1:
            if best is None or slopes.is_steeper_at(node, best):
                best = node
    return slopes, best


def slope(program, lot):
    """Give the fraction to which the height by the depth comes."""
    program, lot = frozen(program), frozen(lot)
    check_pairs(program, lot)
    scenes, growing = growing_of(program, lot)
    told = growing.greatest_power(scenes.roots)
    if told == 0:
        return 0, 1
    if told != 1:
        raise CanNot()
    slopes, node = steepest_root(scenes, growing)
    return slopes.slope_of(node)


def steep(program, lot):
    """Give a TREE and the pumps in it that make up the slope."""
    program, lot = frozen(program), frozen(lot)
    check_pairs(program, lot)
    scenes, growing = growing_of(program, lot)
    if growing.greatest_power(scenes.roots) != 1:
        raise CanNot()
    slopes, node = steepest_root(scenes, growing)
    tree, pumps = slopes.steep_tree(node)
    return tree, tuple(pumps)


def forked(program, tree, path, below, other, many):
    """Give the TREE in which what stands at the path forks so often."""
    program, tree, path = frozen(program), frozen(tree), frozen(path)
    below, other = frozen(below), frozen(other)
    bough = part_at(tree, path)
    part = part_at(tree, path + below)
    part_at(tree, path + other)
    ends = [procedure_at(program, tree, where) for where in (path, path + below, path + other)]
    shared = min(len(below), len(other))
    if ends[0] != ends[1] or ends[0] != ends[2] or below[:shared] == other[:shared]:
        raise Unfit()
    for _ in range(many):
        part = with_part(with_part(bough, below, part), other, part)
    return with_part(tree, path, part)


def fork(program, lot):
    """Give (tree, path, below, other) that can be forked to ever more values alive at once; None
    if the power is a number."""
    program, lot = frozen(program), frozen(lot)
    check_pairs(program, lot)
    scenes, growing = growing_of(program, lot)
    if growing.greatest_power(scenes.roots) is not None:
        return None
    at = min(growing.fork_steps)
    (node, edge), inside = growing.fork_steps[at], growing.members[at]
    trees = trees_by_sum(growing.edges, 1)[1]
    ways = []
    for place, source in edge[2]:
        if source in inside and len(ways) < 2:
            rest = way_to(growing.edges, [source], node, inside)[1]
            ways.append([(edge, place)] + rest)
    bough = wrapped(ways[0], trees[node], trees)
    twig = wrapped(ways[1][1:], trees[node], trees)
    bough = with_part(bough, path_of(ways[1][:1]), twig)
    way = way_to(growing.edges, scenes.roots, node, scenes.numbered())[1]
    return wrapped(way, bough, trees), path_of(way), path_of(ways[0]), path_of(ways[1])
