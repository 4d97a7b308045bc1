"""Greatest sums over the scenes (see scenes) by the depth of TREES, and how they grow."""

from crossnest.collars import steps_in
from crossnest.sums import components, greatest_sums, sources_of


class Stairs:
    """The greatest sums of TREES with at most so many levels, one level more at a time."""

    def __init__(self, scenes, edges):
        self.scenes, self.edges = scenes, edges
        # By level and node: None, or the pair of the sum and the edge by which it comes.
        self.levels = [[None for _ in edges]]

    def climb(self):
        """Let TREES have one level more."""
        depth, ahead, row = len(self.levels), self.levels[-1], []
        for node, told in enumerate(self.edges):
            best = None
            for number, edge in enumerate(told):
                parts = [ahead[other] for _, other in edge[2]]
                if self.scenes.floors[node][number] <= depth and None not in parts:
                    total = edge[0] + sum([part[0] for part in parts])
                    if best is None or total > best[0]:
                        best = (total, number)
            row.append(best)
        self.levels.append(row)

    def best_root(self):
        """Give the node of the root with the greatest sum so far, None if there is none."""
        row = self.levels[-1]
        found = [node for node in self.scenes.roots if row[node] is not None]
        return max(found, key=lambda node: row[node][0]) if found else None

    def height(self):
        """Give the height at the depth of now, None if no TREE has so small a depth."""
        if self.scenes.shallow[0][0] >= len(self.levels):
            return None
        node = self.best_root()
        return 0 if node is None else self.levels[-1][node][0]

    def best_tree(self):
        """Give a TREE with this height, None if there is none."""
        if self.scenes.shallow[0][0] >= len(self.levels):
            return None
        node, known = self.best_root(), {}
        if node is None:
            return self.scenes.shallow[0][1]
        return self.tree_of(len(self.levels) - 1, node, known)

    def tree_of(self, level, node, known):
        """Give the TREE of a node at a level; known keeps them."""
        if (level, node) not in known:
            rule, parts = self.edges[node][self.levels[level][node][1]][1]
            parts = list(parts)
            for place, other in self.edges[node][self.levels[level][node][1]][2]:
                parts[place] = self.tree_of(level - 1, other, known)
            known[(level, node)] = (rule, tuple(parts))
        return known[(level, node)]


class Growing:
    """How the sums of each component of scenes grow with the depth.

    The power of a component is 0 if its sums have a bound, None if they grow beyond each power.
    """

    def __init__(self, edges):
        self.edges = edges
        self.sums = greatest_sums(edges)
        self.members = [
            {node: True for node in members} for members in components(sources_of(edges))
        ]
        self.component_of = {
            node: at for at, inside in enumerate(self.members) for node in inside
        }
        self.powers, self.fork_steps = [], {}
        for at, inside in enumerate(self.members):
            self.powers.append(self.power_within(at, inside))

    def power_of(self, node):
        """Give the power of a node."""
        return self.powers[self.component_of[node]]

    def exits(self, inside):
        """List the pairs (node, edge) that do not lead from a component into itself."""
        return [
            (node, edge) for node in inside for edge in self.edges[node]
            if not [other for _, other in edge[2] if other in inside]
        ]

    def power_within(self, at, inside):
        """Give the power of a component, those of which it comes being known."""
        best = 0
        for node, edge in self.exits(inside):
            for _, other in edge[2]:
                if self.power_of(other) is None:
                    return None
                best = max(best, self.power_of(other))
        for node, edge, place in steps_in(self.edges, inside):
            sides = [other for where, other in edge[2] if where != place]
            if [other for other in sides if other in inside]:
                if self.sums[node] != 0:
                    self.fork_steps[at] = (node, edge)
                    return None
                continue
            powers = [self.power_of(other) for other in sides]
            if None in powers:
                return None
            if edge[0] > 0 or [other for other in sides if self.sums[other] != 0]:
                best = max([best, 1 + max([0] + powers)])
        return best

    def reached_from(self, roots):
        """List the components of these nodes."""
        return sorted({self.component_of[node]: True for node in roots})

    def greatest_power(self, roots):
        """Give the power of all that comes of these nodes."""
        powers = [self.powers[at] for at in self.reached_from(roots)]
        return None if None in powers else max([0] + powers)
