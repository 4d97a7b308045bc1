"""Cells and rounds of cells: how many values are made between a make and its uses."""

from crossnest.forms import frozen, is_number, is_tuple_of
from crossnest.leasts import fits_procedure
from crossnest.plans import Plans
from crossnest.spanning import Spanning
from crossnest.sums import greatest_sums, trees_by_sum
from crossnest.walks import run_of
from crossnest.webs import Web


def web_of_spans(program, lot):
    """Give the edges of the web of all spans, and those of its nodes that are RUNS with a use."""
    kind = Spanning(Plans(program), lot)
    web, key = Web(program, kind), kind.start_key()
    web.ask(key)
    web.spin()
    return web.edges, [node for result, node in web.found[key] if kind.is_met(result)]


def spans_in(walk, lot):
    """Give the triples (made, last, span) of the values of a LOT in a RUN."""
    made, users = walk.values_in(lot), walk.users_of_values()
    found = []
    for at, value in enumerate(made):
        if value in users:
            last = users[value][-1]
            found.append((value, last, len([other for other in made[at + 1:] if other < last])))
        else:
            found.append((value, None, 0))
    return found


def spans(program, tree, lot):
    """Give, for each value of the LOT, its EVENT, its last use and its span there."""
    return tuple(spans_in(run_of(frozen(program), frozen(tree)), frozen(lot)))


def spoilt_in(walk, lot, many):
    """List the triples (use, made, found) of the uses that find another value in a round."""
    made = walk.values_in(lot)
    numbers = {value: at for at, value in enumerate(made)}
    found, behind = [], 0
    for event in range(len(walk.steps)):
        for value in walk.used_by(event):
            if value in numbers:
                # The youngest value that was put into the same cell.
                at = behind - 1 - (behind - 1 - numbers[value]) % many
                if made[at] != value:
                    found.append((event, value, made[at]))
        if event in numbers:
            behind += 1
    return found


def spoilt(program, tree, lot, many):
    """Give the triples (use, made, found) of the uses that find another value in a round."""
    walk = run_of(frozen(program), frozen(tree))
    return tuple(spoilt_in(walk, frozen(lot), many))


def can_be_cell(program, lot):
    """Tell whether a cell serves the LOT."""
    return least_round(program, lot) == 1


def can_be_round(program, lot, many):
    """Tell whether a round of many cells serves the LOT."""
    least = least_round(program, lot)
    return least is not None and least <= many


def least_round(program, lot):
    """Give the least number of cells whose round serves the LOT, None if there is none."""
    edges, nodes = web_of_spans(frozen(program), frozen(lot))
    sums = greatest_sums(edges)
    greatest = 0
    for node in nodes:
        if sums[node] is None:
            return None
        greatest = max(greatest, sums[node])
    return 1 + greatest


def round_clash(program, lot, many):
    """Give a TREE, a make and a use with a span of many or more, None if there is none."""
    program, lot = frozen(program), frozen(lot)
    edges, nodes = web_of_spans(program, lot)
    sums, trees = trees_by_sum(edges, many)
    for node in nodes:
        if sums[node] >= many:
            for made, last, span in spans_in(run_of(program, trees[node]), lot):
                if span >= many:
                    return trees[node], made, last
    return None


def is_round_clash(program, lot, many, thing):
    """Tell whether thing is a TREE, a make and a use with a span of many or more."""
    program = frozen(program)
    if not is_tuple_of(thing, 3) or not is_number(thing[1]) or not is_number(thing[2]):
        return False
    tree, made, use = thing
    if not fits_procedure(program, 0, tree):
        return False
    walk = run_of(program, tree)
    values = walk.values_in(frozen(lot))
    if made not in values or use not in walk.users_of_values().get(made, []):
        return False
    return len([value for value in values if made < value < use]) >= many
