"""A TREE unfolded into its EVENTS, with what each one reads and sets.

Nodes are told by numbers in the order of their PATHS, the root is 0. A slot is a pair
(node, NAME of its PROCEDURE): the WORD (place, name) of its caller is the same slot.
"""

ROOT_KNOWN = -1


class Walk:
    """The EVENTS of a TREE of a PROCEDURE that is gone to so often."""

    def __init__(self, program, tree, procedure, visits, asks):
        self.source = program
        self.paths, self.procedures, self.rules = [], [], []
        self.callers, self.kids = [], []
        self.lay_nodes(tree, procedure)
        self.gone = [0 for _ in self.paths]
        # How many EVENTS are ahead of the first go to each node: None if there is no go.
        self.entered = [None for _ in self.paths]
        self.entered[0] = ROOT_KNOWN
        # The nodes that are gone to, in the order in which they are first.
        self.order = [0]
        # By node, visit and number of a STEP: how many EVENTS are ahead of it.
        self.stood = {}
        # One row for each EVENT: its node, visit and number in the row, the visit of the
        # root in which it comes, its STEP, the slots that it reads, the slot that it sets.
        self.nodes, self.visits, self.numbers, self.turns = [], [], [], []
        self.steps, self.sources, self.targets = [], [], []
        # By slot: the EVENT that sets it, the value there, and its readers as triples
        # (EVENT, node, slot to which a hand takes the value or None for a use).
        self.set_at, self.value_at, self.readers = {}, {}, {}
        for visit in range(visits):
            self.run_row(visit)
            if asks:
                self.ask(visit)

    def lay_nodes(self, tree, procedure):
        """Number the nodes."""
        waiting = [((), procedure, tree, None)]
        while waiting:
            path, number, (rule, trees), caller = waiting.pop()
            node = len(self.paths)
            self.paths.append(path)
            self.procedures.append(number)
            self.rules.append(rule)
            self.callers.append(caller)
            self.kids.append([])
            if caller is not None:
                self.kids[caller].append(node)
            callees = self.source[number][2][rule][0]
            for place in reversed(range(len(trees))):
                waiting.append((path + (place,), callees[place], trees[place], node))

    def rule_of(self, node):
        """Give the RULE of a node, as a value."""
        return self.source[self.procedures[node]][2][self.rules[node]]

    def slot_of(self, node, word):
        """Give the slot that a WORD of this node's RULE tells."""
        if isinstance(word, str):
            return node, word
        return self.kids[node][word[0]], word[1]

    def run_row(self, visit):
        """Do the row of the root for this visit, with all that it goes to."""
        self.gone[0] += 1
        frames = [[0, visit, 0]]
        while frames:
            node, turn, number = frames[-1]
            row = self.rule_of(node)[1][turn]
            self.stood[(node, turn, number)] = len(self.steps)
            if number == len(row):
                frames.pop()
                continue
            frames[-1][2] += 1
            step = row[number]
            if step[0] == "go":
                kid = self.kids[node][step[1]]
                if self.entered[kid] is None:
                    self.entered[kid] = len(self.steps)
                    self.order.append(kid)
                frames.append([kid, self.gone[kid], 0])
                self.gone[kid] += 1
            else:
                self.do_step(node, turn, number, visit, step)

    def add_event(self, node, visit, number, turn, step):
        """Note one more EVENT; give its number."""
        event = len(self.steps)
        self.nodes.append(node)
        self.visits.append(visit)
        self.numbers.append(number)
        self.turns.append(turn)
        self.steps.append(step)
        return event

    def do_step(self, node, visit, number, turn, step):
        """Do a make or a hand."""
        event = self.add_event(node, visit, number, turn, step)
        target = self.slot_of(node, step[1])
        if step[0] == "make":
            slots = [self.slot_of(node, word) for word in step[2]]
            self.value_at[target] = event
            self.note_readers(slots, event, node, None)
        else:
            slots = [self.slot_of(node, step[2])]
            self.value_at[target] = self.value_at.get(slots[0])
            self.note_readers(slots, event, node, target)
        self.set_at[target] = event
        self.sources.append(slots)
        self.targets.append(target)

    def ask(self, visit):
        """Do the asking of this visit of the start."""
        names = self.source[0][1][visit]
        row = self.rule_of(0)[1][visit]
        event = self.add_event(0, visit, len(row), visit, ("ask", names))
        slots = [(0, name) for name in names]
        self.note_readers(slots, event, 0, None)
        self.sources.append(slots)
        self.targets.append(None)

    def note_readers(self, slots, event, node, target):
        """Note that this EVENT reads these slots."""
        for slot in slots:
            self.readers.setdefault(slot, []).append((event, node, target))

    def event_at(self, event):
        """Give an EVENT as a triple (path, visit, step)."""
        return self.paths[self.nodes[event]], self.visits[event], self.numbers[event]

    def makes_value(self, event):
        """Tell whether the EVENT makes a value."""
        return self.steps[event][0] == "make"

    def used_by(self, event):
        """Give the set of the values that an EVENT uses."""
        if self.steps[event][0] == "hand":
            return ()
        return tuple(sorted({self.value_at[slot] for slot in self.sources[event]}))

    def pair_made(self, event):
        """Give the pair (procedure, name) that the value made by an EVENT is of."""
        node, name = self.targets[event]
        return self.procedures[node], name

    def values_in(self, lot):
        """List the values that are of a LOT, ascending."""
        return [
            event for event in range(len(self.steps))
            if self.makes_value(event) and self.pair_made(event) in lot
        ]

    def slots_of_values(self):
        """Give a dict with, for each value, the slots that come to have it, as they are set."""
        found = {}
        for event, target in enumerate(self.targets):
            if target is not None and self.value_at[target] is not None:
                found.setdefault(self.value_at[target], []).append(target)
        return found

    def users_of_values(self):
        """Give a dict with, for each value that is used, the EVENTS that use it, ascending."""
        found = {}
        for event in range(len(self.steps)):
            for value in self.used_by(event):
                found.setdefault(value, []).append(event)
        return found

    def is_known(self, node, moment):
        """Tell whether the RULE of a node is known at a MOMENT."""
        entered = self.entered[node]
        return entered is not None and entered < moment

    def is_open(self, node, moment):
        """Tell whether a node is not known at a MOMENT, but its caller is."""
        if self.is_known(node, moment):
            return False
        return self.is_known(self.callers[node], moment)


def run_of(program, tree):
    """Give the Walk that is the RUN of a TREE of the start."""
    return Walk(program, tree, 0, len(program[0][0]), True)
