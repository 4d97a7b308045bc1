"""TREES: their nodes and parts, all of them by size, the least ones, and pumping."""

from crossnest.checks import check_procedure, check_rule
from crossnest.errors import CanNot, TooMany, Unfit
from crossnest.forms import frozen
from crossnest.leasts import (
    fits_procedure, joined, least_of_rule, least_table, lesser, levels_of, part_at, procedure_at,
    settled, size_of, with_part,
)

MOST_TREES = 2000


def is_tree(program, procedure, thing):
    """Tell whether thing is a TREE of this PROCEDURE."""
    program = frozen(program)
    check_procedure(program, procedure)
    return fits_procedure(program, procedure, thing)


def nodes(tree):
    """Tell how many nodes the TREE has."""
    return size_of(frozen(tree))


def depth(tree):
    """Tell how many levels the TREE has."""
    return levels_of(frozen(tree))


def paths(tree):
    """Give the set of the PATHS of the TREE."""
    found, waiting = [], [((), frozen(tree))]
    while waiting:
        path, part = waiting.pop()
        found.append(path)
        for place in reversed(range(len(part[1]))):
            waiting.append((path + (place,), part[1][place]))
    return tuple(found)


def at_path(tree, path):
    """Give the TREE that stands at this PATH."""
    return part_at(frozen(tree), frozen(path))


def procedure_of(program, tree, path):
    """Give the number of the PROCEDURE of this node."""
    tree, path = frozen(tree), frozen(path)
    part_at(tree, path)
    return procedure_at(frozen(program), tree, path)


def put_at(program, tree, path, other):
    """Give the TREE with other in the place of what stands at this PATH."""
    program, tree, path, other = frozen(program), frozen(tree), frozen(path), frozen(other)
    part_at(tree, path)
    if not fits_procedure(program, procedure_at(program, tree, path), other):
        raise Unfit()
    return with_part(tree, path, other)


def splits(many, callees, ways):
    """List the tuples of sizes, adding up to many, that TREES of these callees can have."""
    if len(callees) == 0:
        return [()] if many == 0 else []
    found = []
    for size in range(1, many + 1):
        if ways[callees[0]][size] > 0:
            for rest in splits(many - size, callees[1:], ways):
                found.append((size,) + rest)
    return found


def count_trees(program, many):
    """Give, for each PROCEDURE, a list: how many TREES it has with 0, 1, .. many nodes.

    Counts stop a little above the greatest that matters, since they may grow without end.
    """
    ways = [[0 for _ in range(many + 1)] for _ in program]
    for size in range(1, many + 1):
        for procedure, (_, _, rules) in enumerate(program):
            total = 0
            for callees, _ in rules:
                for sizes in splits(size - 1, callees, ways):
                    product = 1
                    for callee, part in zip(callees, sizes):
                        product = min(product * ways[callee][part], MOST_TREES + 1)
                    total = min(total + product, MOST_TREES + 1)
            ways[procedure][size] = total
    return ways


def trees_of_size(program, procedure, size, ways, known):
    """List the TREES of this PROCEDURE with just so many nodes, ascending; known keeps them."""
    if (procedure, size) in known:
        return known[(procedure, size)]
    found = []
    for rule, (callees, _) in enumerate(program[procedure][2]):
        for sizes in splits(size - 1, callees, ways):
            rows = [()]
            for callee, part in zip(callees, sizes):
                more = trees_of_size(program, callee, part, ways, known)
                rows = [row + (tree,) for row in rows for tree in more]
            for row in rows:
                found.append((rule, row))
    known[(procedure, size)] = sorted(found)
    return known[(procedure, size)]


def trees_of(program, procedure, many):
    """List all TREES of this PROCEDURE with at most many nodes, by size."""
    program = frozen(program)
    check_procedure(program, procedure)
    ways = count_trees(program, many)
    if sum(ways[procedure]) > MOST_TREES:
        raise TooMany()
    found, known = [], {}
    for size in range(1, many + 1):
        found.extend(trees_of_size(program, procedure, size, ways, known))
    return found


def tree_or_error(found):
    """Give the TREE of a pair (size, TREE); raise CanNot for None."""
    if found is None:
        raise CanNot()
    return found[1]


def least_tree(program, procedure):
    """Give the least TREE of this PROCEDURE."""
    program = frozen(program)
    check_procedure(program, procedure)
    return tree_or_error(least_table(program)[procedure])


def least_by(program, procedure, rule):
    """Give the least TREE of this PROCEDURE whose root has this RULE."""
    program = frozen(program)
    check_rule(program, procedure, rule)
    return tree_or_error(least_of_rule(program, procedure, rule, least_table(program)))


def first_path(program, tree, procedure, rule):
    """Give the least PATH of a node of this PROCEDURE with this RULE."""
    waiting = [((), 0, tree)]
    while waiting:
        path, number, part = waiting.pop()
        if (number, part[0]) == (procedure, rule):
            return path
        callees = program[number][2][part[0]][0]
        for place in reversed(range(len(callees))):
            waiting.append((path + (place,), callees[place], part[1][place]))
    return None


def tree_having(program, procedure, rule):
    """Give the least TREE of the start that has such a node, and its least PATH, as a pair."""
    program = frozen(program)
    check_rule(program, procedure, rule)
    least = least_table(program)

    def improve(number, table):
        best = None
        if number == procedure:
            best = least_of_rule(program, number, rule, least)
        for at, (callees, _) in enumerate(program[number][2]):
            parts = [least[callee] for callee in callees]
            for place, callee in enumerate(callees):
                having = parts[:place] + [table[callee]] + parts[place + 1:]
                if all([part is not None for part in having]):
                    best = lesser(best, joined(at, having))
        return best

    tree = tree_or_error(settled(program, improve)[0])
    return tree, first_path(program, tree, procedure, rule)


def pumped(program, tree, path, below, many):
    """Give the TREE in which the collar between both nodes stands many times."""
    program, tree, path, below = frozen(program), frozen(tree), frozen(path), frozen(below)
    collar = part_at(tree, path)
    part = part_at(tree, path + below)
    ends = [procedure_at(program, tree, where) for where in (path, path + below)]
    if ends[0] != ends[1] or len(below) == 0:
        raise Unfit()
    for _ in range(many):
        part = with_part(collar, below, part)
    return with_part(tree, path, part)
