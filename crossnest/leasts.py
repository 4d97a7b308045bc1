"""TREES as values: their nodes, PATHS and parts, and the least TREE of each PROCEDURE."""

from crossnest.errors import NoPath


def size_of(tree):
    """Tell how many nodes a TREE has."""
    many, waiting = 0, [tree]
    while waiting:
        many += 1
        part = waiting.pop()
        waiting.extend(part[1])
    return many


def levels_of(tree):
    """Tell how many levels a TREE has."""
    many, level = 0, [tree]
    while level:
        many += 1
        level = [part for above in level for part in above[1]]
    return many


def part_at(tree, path):
    """Give the TREE that stands at this PATH; raise NoPath if none does."""
    for place in path:
        if not 0 <= place < len(tree[1]):
            raise NoPath(path)
        tree = tree[1][place]
    return tree


def with_part(tree, path, part):
    """Give the TREE with part in the place of what stands at this PATH."""
    above = []
    for place in path:
        above.append(tree)
        tree = tree[1][place]
    for at in reversed(range(len(path))):
        rule, trees = above[at]
        place = path[at]
        part = (rule, trees[:place] + (part,) + trees[place + 1:])
    return part


def procedure_at(program, tree, path):
    """Give the number of the PROCEDURE of a node that is there."""
    procedure = 0
    for place in path:
        procedure = program[procedure][2][tree[0]][0][place]
        tree = tree[1][place]
    return procedure


def fits_procedure(program, procedure, thing):
    """Tell whether thing is a TREE of this PROCEDURE."""
    waiting = [(procedure, thing)]
    while waiting:
        number, part = waiting.pop()
        if not isinstance(part, tuple) or len(part) != 2 or not isinstance(part[1], tuple):
            return False
        rules = program[number][2]
        if not isinstance(part[0], int) or isinstance(part[0], bool) or not 0 <= part[0] < len(rules):
            return False
        callees = rules[part[0]][0]
        if len(callees) != len(part[1]):
            return False
        waiting.extend(list(zip(callees, part[1])))
    return True


def joined(rule, parts):
    """Give the pair (size, TREE) of a RULE's number and such pairs of its callees."""
    size = 1 + sum([part[0] for part in parts])
    return size, (rule, tuple([part[1] for part in parts]))


def lesser(one, other):
    """Give the lesser of two pairs (size, TREE), each of which may be None."""
    if one is None or (other is not None and other < one):
        return other
    return one


def least_of_rule(program, procedure, rule, table):
    """Give the least pair (size, TREE) whose root has this RULE, None if there is none."""
    parts = [table[callee] for callee in program[procedure][2][rule][0]]
    if any([part is None for part in parts]):
        return None
    return joined(rule, parts)


def settled(program, improve):
    """Give, for each PROCEDURE, the least pair (size, TREE) that improve comes to.

    improve is a function of a PROCEDURE's number and the list as it stands.
    """
    table, changed = [None for _ in program], True
    while changed:
        changed = False
        for procedure in range(len(program)):
            found = lesser(table[procedure], improve(procedure, table))
            if found != table[procedure]:
                table[procedure] = found
                changed = True
    return table


def least_table(program):
    """Give, for each PROCEDURE, its least TREE as a pair (size, TREE), None without."""

    def improve(procedure, table):
        best = None
        for rule in range(len(program[procedure][2])):
            best = lesser(best, least_of_rule(program, procedure, rule, table))
        return best

    return settled(program, improve)


def shallow_table(program):
    """Give, for each PROCEDURE, a pair (depth, TREE): a TREE with as few levels as can be."""
    table, depth = [None for _ in program], 0
    while None in table:
        depth += 1
        found = {}
        for procedure, (_, _, rules) in enumerate(program):
            for rule, (callees, _) in enumerate(rules):
                parts = [table[callee] for callee in callees]
                if table[procedure] is None and procedure not in found and None not in parts:
                    found[procedure] = (depth, (rule, tuple([part[1] for part in parts])))
        for procedure, told in found.items():
            table[procedure] = told
    return table
