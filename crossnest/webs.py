"""All ways in which results come of each other, as a web of nodes.

An *edge* of a node is (gain, base, sources): gain is what counts by itself, sources are pairs
(place, node) with the nodes of which it comes, and what counts of these counts, too. base is
(rule, trees), trees having None for the places of sources; or it is None, and the first source,
its place None, has the rule and the trees so far.
"""

from crossnest.leasts import least_table


class Web:
    """The web of all that comes under some keys; kind is as for Growth (see growth), with a
    method run_counting(state) that lists triples (key, state, gain), (None, result, gain)."""

    def __init__(self, program, kind):
        self.kind = kind
        self.smallest = least_table(program)
        # By what they stand for: the numbers of the nodes; and their edges.
        self.numbers, self.edges = {}, []
        # By key: the pairs (result, node), and the tuples (state, node, key, rule) that wait.
        self.found, self.waiting = {}, {}
        # What is new: nodes with what they stand for.
        self.coming = []

    def ask(self, key):
        """Let be found what stands under this key."""
        if key in self.found:
            return
        self.found[key], self.waiting[key] = [], []
        for rule, state, places in self.kind.starts(key):
            callees = self.kind.callees_of(key, rule)
            trees = [None for _ in callees]
            for place in places:
                trees[place] = self.smallest[callees[place]][1]
            self.spread(key, rule, state, (rule, tuple(trees)), ())

    def spread(self, key, rule, state, base, sources):
        """Note all that comes of this state without a further callee."""
        for wanted, outcome, gain in self.kind.run_counting(state):
            mark = (key, outcome) if wanted is None else (key, rule, wanted, outcome)
            if mark not in self.numbers:
                self.numbers[mark] = len(self.edges)
                self.edges.append([])
                self.coming.append(mark)
            self.edges[self.numbers[mark]].append((gain, base, sources))

    def spin(self):
        """Find all that comes of what was asked for."""
        while self.coming:
            mark = self.coming.pop()
            if len(mark) == 2:
                self.found[mark[0]].append((mark[1], self.numbers[mark]))
                for waiting in list(self.waiting[mark[0]]):
                    self.bring_together(waiting, mark[1], self.numbers[mark])
            else:
                key, rule, wanted, state = mark
                self.ask(wanted)
                waiting = (state, self.numbers[mark], key, rule)
                self.waiting[wanted].append(waiting)
                for result, node in list(self.found[wanted]):
                    self.bring_together(waiting, result, node)

    def bring_together(self, waiting, result, node):
        """Let a state go on with a result of the callee that it waits for."""
        state, ahead, key, rule = waiting
        met = self.kind.meet(state, result)
        if met is not None:
            self.spread(key, rule, met[1], None, ((None, ahead), (met[0], node)))
