"""The least closed family of what comes of TREES, with the least TREE of each.

What comes of a TREE is its *result*, and stands under a *key*; a RULE whose callees are not all
chosen yet is a *state*. The family that grows is told by an object with these methods:
starts(key): the list of triples (RULE's number, state, places), places the set of those places
whose callees do not matter; run(state): the list of pairs (key, state), to be joined with a
result under this key, or (None, result); meet(state, result): the place of the callee that was
waited for and the state behind it, or None if they do not meet; wants(key, result, results):
whether a result is to be kept beside the others; worse(result, results): the list of those that
are not to be kept beside it; callees_of(key, rule): the callees of this RULE.
"""

from crossnest.leasts import least_table


class Growth:
    """A family that grows, TREES with fewer nodes first."""

    def __init__(self, program, kind):
        self.kind = kind
        self.smallest = least_table(program)
        # By size: what comes of TREES with so many nodes, maybe several times.
        self.coming = {}
        # By key: the results, each with its (size, TREE), and the states that wait for them.
        self.found, self.waiting = {}, {}
        self.settled = {}

    def ask(self, key):
        """Let grow what stands under this key."""
        if key in self.found:
            return
        self.found[key] = {}
        self.waiting[key] = []
        for rule, state, places in self.kind.starts(key):
            callees = self.kind.callees_of(key, rule)
            trees, size = [None for _ in callees], 1
            for place in places:
                many, tree = self.smallest[callees[place]]
                trees[place] = tree
                size += many
            self.spread(key, rule, state, size, tuple(trees))

    def spread(self, key, rule, state, size, trees):
        """Note all that comes of this state without a further callee."""
        bucket = self.coming.setdefault(size, [])
        for wanted, outcome in self.kind.run(state):
            bucket.append((key, rule, wanted, outcome, trees))

    def step(self):
        """Settle what comes of the fewest nodes; tell whether there was anything."""
        if len(self.coming) == 0:
            return False
        size = min(self.coming)
        coming = self.coming.pop(size)
        results, states = {}, {}
        for key, rule, wanted, outcome, trees in coming:
            if wanted is None:
                self.keep_least(results, (key, outcome), (rule, trees))
            else:
                self.keep_least(states, (key, rule, wanted, outcome), trees)
        for (key, outcome), tree in self.in_order(results):
            self.add_result(key, outcome, size, tree)
        for (key, rule, wanted, outcome), trees in states.items():
            self.add_state(key, rule, wanted, outcome, size, trees)
        return True

    def in_order(self, results):
        """List the results of one size, each with its TREE."""
        return list(results.items())

    def keep_least(self, table, mark, tree):
        """Keep the least TREE under this mark, if no TREE with fewer nodes had it."""
        if mark in self.settled:
            return
        if mark not in table or tree < table[mark]:
            table[mark] = tree

    def add_result(self, key, result, size, tree):
        """Keep a result, and join it with all that waited for it."""
        self.settled[(key, result)] = True
        if not self.kind.wants(key, result, self.found[key]):
            return
        dropped = self.kind.worse(result, self.found[key])
        for worse in dropped:
            del self.found[key][worse]
        self.found[key][result] = (size, tree)
        self.join_with_waiting(key, result, size, tree)

    def add_state(self, key, rule, wanted, state, size, trees):
        """Keep a state, and join it with all results that it waits for."""
        self.settled[(key, rule, wanted, state)] = True
        self.ask(wanted)
        waiting = (key, rule, state, size, trees)
        self.waiting[wanted].append(waiting)
        self.join_with_found(wanted, waiting)

    def join_with_waiting(self, key, result, size, tree):
        """Join a result with all that waits for it."""
        for waiting in list(self.waiting[key]):
            self.bring_together(waiting, result, size, tree)

    def join_with_found(self, wanted, waiting):
        """Join a state with all results that it waits for."""
        for result, (many, tree) in list(self.found[wanted].items()):
            self.bring_together(waiting, result, many, tree)

    def bring_together(self, waiting, result, many, tree):
        """Let a state go on with a result of the callee that it waits for."""
        key, rule, state, size, trees = waiting
        met = self.kind.meet(state, result)
        if met is not None:
            place, state = met
            chosen = trees[:place] + (tree,) + trees[place + 1:]
            self.spread(key, rule, state, size + many, chosen)

    def grow(self):
        """Let all grow that was asked for."""
        while self.step():
            pass


class Sorted(Growth):
    """The same family, each result with its least TREE coming ahead of those with greater ones:
    so a result that is not wanted beside one that came ahead of it has no lesser TREE."""

    def in_order(self, results):
        """List the results of one size, each with its TREE, lesser TREES first."""
        return sorted(list(results.items()), key=lambda item: item[1])


class Rush(Growth):
    """The same family in no order, each TREE None and its size 0.

    What is new is joined with the rest bit by bit, the newest first: where results are too
    many to be kept, that comes out soon.
    """

    def __init__(self, program, kind):
        super().__init__(program, kind)
        self.stack, self.joins = [], []
        # By key: all results, also those that are not kept any more.
        self.rows = {}

    def spread(self, key, rule, state, size, trees):
        """Note all that comes of this state without a further callee."""
        for wanted, outcome in self.kind.run(state):
            self.stack.append((key, rule, wanted, outcome, trees))

    def step(self):
        """Do one thing more; tell whether there was anything to do."""
        if len(self.stack) > 0:
            key, rule, wanted, outcome, trees = self.stack.pop()
            mark = (key, outcome) if wanted is None else (key, rule, wanted, outcome)
            if mark not in self.settled:
                if wanted is None:
                    self.add_result(key, outcome, 0, None)
                else:
                    self.add_state(key, rule, wanted, outcome, 0, trees)
            return True
        if len(self.joins) == 0:
            return False
        self.join_next(self.joins[-1])
        return True

    def join_with_waiting(self, key, result, size, tree):
        """Let a result be joined with all that waits for it."""
        self.rows.setdefault(key, []).append(result)
        self.joins.append([key, None, result, len(self.waiting[key])])

    def join_with_found(self, wanted, waiting):
        """Let a state be joined with all results that it waits for."""
        self.joins.append([wanted, waiting, None, len(self.rows.get(wanted, []))])

    def join_next(self, join):
        """Join one more pair."""
        key, waiting, result, left = join
        if left == 0:
            self.joins.pop()
            return
        join[3] = left - 1
        if waiting is None:
            waiting = self.waiting[key][left - 1]
        else:
            result = self.rows[key][left - 1]
        if result in self.found[key]:
            self.bring_together(waiting, result, 0, None)
