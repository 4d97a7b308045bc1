"""How fast sums over scenes grow where they grow with the depth itself (see stairs).

Fractions are pairs (top, bottom) without a common divisor above 1, bottom from 1.
"""

from math import gcd

from crossnest.collars import (
    below, gain_beside, gain_of, links_of, path_of, shortest_way, steps_in, way_to, wrapped,
)
from crossnest.sums import trees_by_sum


def lowest(top, bottom):
    """Give the fraction top by bottom."""
    shared = gcd(top, bottom)
    return top // shared, bottom // shared


def is_steeper(one, other):
    """Tell whether a fraction is greater than another one."""
    return one[0] * other[1] > other[0] * one[1]


def added(fractions):
    """Add up fractions."""
    top, bottom = 0, 1
    for more, other in fractions:
        top, bottom = lowest(top * other + more * bottom, bottom * other)
    return top, bottom


def least_mean(total, rows, node, many):
    """Give the least mean of what the last steps of a row of many steps add."""
    least = None
    for length, row in enumerate(rows[:many]):
        if node in row:
            mean = lowest(total - row[node], many - length)
            if least is None or is_steeper(least, mean):
                least = mean
    return least


def steepest_mean(steps, nodes):
    """Give the greatest mean weight of a ring of steps (node, other, weight) between nodes that
    all lead to each other, None if there is no ring."""
    rows = [{nodes[0]: 0}]
    for _ in nodes:
        row = {}
        for node, other, weight in steps:
            if node in rows[-1]:
                row[other] = max(row.get(other, 0), rows[-1][node] + weight)
        rows.append(row)
    best = None
    for node, total in rows[-1].items():
        least = least_mean(total, rows, node, len(nodes))
        if best is None or is_steeper(least, best):
            best = least
    return best


def tight_steps(steps, mean):
    """List those steps of which rings with this greatest mean are made."""
    top, bottom = mean
    most, changed = {}, True
    while changed:
        changed = False
        for node, other, weight in steps:
            total = bottom * weight - top + most.get(other, 0)
            if total > most.get(node, 0):
                most[node] = total
                changed = True
    return [
        at for at, (node, other, weight) in enumerate(steps)
        if most.get(node, 0) == bottom * weight - top + most.get(other, 0)
    ]


class Slopes:
    """The slopes of the components of scenes, as far as their power is 1."""

    def __init__(self, growing):
        self.growing, self.edges = growing, growing.edges
        # By component: its slope, and how it comes: (node, edge) of an exit, or None for a ring.
        self.slopes, self.ways_out = [], []
        for at, inside in enumerate(growing.members):
            if growing.powers[at] == 1:
                self.add_component(inside)
            else:
                self.slopes.append((0, 1))
                self.ways_out.append(None)
        finite = [
            told if total is not None else [] for told, total in zip(self.edges, growing.sums)
        ]
        most = max([0] + [total for total in growing.sums if total is not None])
        full, some = trees_by_sum(finite, most)[1], trees_by_sum(self.edges, 0)[1]
        # A TREE of each node, with the greatest sum where there is one.
        self.trees = [one if one is not None else other for one, other in zip(full, some)]

    def slope_of(self, node):
        """Give the slope of a node."""
        return self.slopes[self.growing.component_of[node]]

    def is_steeper_at(self, node, other):
        """Tell whether a node has a greater slope than another one."""
        return is_steeper(self.slope_of(node), self.slope_of(other))

    def weighed(self, inside):
        """Give two lists: the steps (node, other, weight) of a component, and each as it is."""
        told = steps_in(self.edges, inside)
        steps = [
            (node, below(edge, place), gain_beside(edge, place, self.growing.sums))
            for node, edge, place in told
        ]
        return steps, told

    def add_component(self, inside):
        """Find the slope of a component."""
        best = steepest_mean(self.weighed(inside)[0], list(inside))
        way_out = None
        for node, edge in self.growing.exits(inside):
            total = added([self.slope_of(other) for _, other in edge[2]])
            if best is None or is_steeper(total, best):
                best, way_out = total, (node, edge)
        self.slopes.append(best)
        self.ways_out.append(way_out)

    def ring_of(self, inside, mean):
        """Give a ring of a component with the greatest mean: a pair (node, way)."""
        steps, told = self.weighed(inside)
        tight = [told[at] for at in tight_steps(steps, mean)]
        links = links_of(tight)
        for node, edge, place in tight:
            found = shortest_way(links, [below(edge, place)], node)
            if found is not None:
                return node, [(edge, place)] + found[1]
        return None

    def steep_tree(self, node):
        """Give a pair (TREE, pumps) of a node: the pumps (path, below, gain) make up its slope."""
        at = self.growing.component_of[node]
        inside, way_out = self.growing.members[at], self.ways_out[at]
        if self.slopes[at][0] == 0:
            return self.trees[node], []
        if way_out is None:
            goal, ring = self.ring_of(inside, self.slopes[at])
            way = way_to(self.edges, [node], goal, inside)[1]
            tree = wrapped(way + ring, self.trees[goal], self.trees)
            return tree, [(path_of(way), path_of(ring), gain_of(ring, self.growing.sums))]
        goal, (_, (rule, parts), sources) = way_out
        way = way_to(self.edges, [node], goal, inside)[1]
        parts, pumps = list(parts), []
        for place, other in sources:
            parts[place], inner = self.steep_tree(other)
            for path, ring, gain in inner:
                pumps.append((path_of(way) + (place,) + path, ring, gain))
        return wrapped(way, (rule, tuple(parts)), self.trees), pumps
