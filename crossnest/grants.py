"""Spots at which of each of several pairs many values are alive.

A component of the web of scenes (see scenes) *grows* a wish if going round in it once more leaves
more values of its pair alive. All such wishes are granted at once by going round often enough;
for the others just the ways out of components count, of which there are finitely many.
"""

from crossnest.collars import collar_by, growing_step, way_to, wrapped
from crossnest.sums import components, sources_of, trees_by_sum


def is_within(vector, other):
    """Tell whether no part of a vector is greater than that of the other one."""
    return all([one <= more for one, more in zip(vector, other)])


def greatest_choices(choices):
    """List those choices, beginning with a vector, whose vectors are within no other one."""
    found = []
    for choice in choices:
        if not any([is_within(choice[0], other[0]) for other in found]):
            found = [other for other in found if not is_within(other[0], choice[0])]
            found.append(choice)
    return found


class Grants:
    """What the scenes can do for some wishes."""

    def __init__(self, scenes, wishes):
        self.scenes, self.caps = scenes, tuple([wish[2] for wish in wishes])
        # By wish: the edges, what counts being its pair, and sums and TREES up to 1.
        self.webs = [scenes.edges_for(((at, name),)) for at, name, _ in wishes]
        self.sums, self.trees = [], []
        for edges in self.webs:
            sums, trees = trees_by_sum(edges, 1)
            self.sums.append(sums)
            self.trees.append(trees)
        # By component: its nodes, the wishes that it grows, each with a step (see collars),
        # and the choices: tuples (vector, node, number of an edge, choices of its sources).
        self.members, self.grown, self.choices = [], [], []
        self.component_of = {}
        for members in components(sources_of(scenes.edges)):
            for node in members:
                self.component_of[node] = len(self.members)
            self.add_component({node: True for node in members})

    def add_component(self, inside):
        """Find out what a component can do; those of which it comes are done."""
        grown = {}
        for wish in range(len(self.caps)):
            step = growing_step(self.webs[wish], inside, self.sums[wish])
            if step is not None:
                grown[wish] = step
        choices = []
        for node in inside:
            for number, (_, _, sources) in enumerate(self.scenes.edges[node]):
                if not [other for _, other in sources if other in inside]:
                    choices.extend(self.choices_by(node, number, grown))
        self.members.append(inside)
        self.grown.append(grown)
        self.choices.append(greatest_choices(choices))

    def added(self, vector, other):
        """Add two vectors, up to what is wished."""
        return tuple([min(cap, one + more) for cap, one, more in zip(self.caps, vector, other)])

    def choices_by(self, node, number, grown):
        """List what can be done by an edge that leads out of its component."""
        vector = tuple([
            cap if wish in grown else min(cap, self.webs[wish][node][number][0])
            for wish, cap in enumerate(self.caps)
        ])
        found = [(vector, node, number, ())]
        for _, other in self.scenes.edges[node][number][2]:
            inner = self.choices[self.component_of[other]]
            found = greatest_choices([
                (self.added(told[0], inner[at][0]), node, number, told[3] + (at,))
                for told in found for at in range(len(inner))
            ])
        return found

    def granting_tree(self):
        """Give a TREE that has a spot which grants the wishes, None if there is none."""
        if len(self.caps) == 0:
            return self.scenes.shallow[0][1]
        for node in self.scenes.roots:
            for at, choice in enumerate(self.choices[self.component_of[node]]):
                if choice[0] == self.caps:
                    return self.tree_by(node, at, list(self.caps))
        return None

    def tree_by(self, node, at, left):
        """Give the TREE of a choice; left has what is still to be had by going round."""
        component = self.component_of[node]
        inside = self.members[component]
        _, last, number, picks = self.choices[component][at]
        rounds = []
        for wish, step in self.grown[component].items():
            rounds.append((wish, step, left[wish]))
            left[wish] = 0
        rule, parts = self.scenes.edges[last][number][1]
        parts = list(parts)
        for (place, other), pick in zip(self.scenes.edges[last][number][2], picks):
            parts[place] = self.tree_by(other, pick, left)
        tree = self.wrapped_to(node, last, (rule, tuple(parts)), 0, inside)
        for wish, step, many in rounds:
            edges, trees = self.webs[wish], self.trees[wish]
            # Round from the node of the step, and there and back from this node.
            if many > 0:
                back = self.wrapped_to(step[0], node, tree, wish, inside)
                collar = collar_by(edges, step, inside)
                for _ in range(many):
                    back = wrapped(collar, back, trees)
                tree = self.wrapped_to(node, step[0], back, wish, inside)
        return tree

    def wrapped_to(self, node, last, tree, wish, inside):
        """Give the TREE of the way from a node to the last one, with this TREE at its end."""
        way = way_to(self.webs[wish], [node], last, inside)[1]
        return wrapped(way, tree, self.trees[wish])
