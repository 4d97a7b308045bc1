"""CODE that is run by a TREE (see code): what its makes and askings read.

A *handle* is a pair (part, count): the value of a part ahead of which so many of it were made.
"""


class Store:
    """The values of a part as they are made, and which of them are lost."""

    def __init__(self, home, number):
        self.home, self.number = home, number
        # The values, as numbers of makes; those that are lost, by their counts.
        self.made, self.lost = [], {}

    def youngest(self):
        """Give the count of the youngest value."""
        return len(self.made) - 1

    def found_at(self, count):
        """Give the value that a handle with this count finds, None if it is lost."""
        last = self.youngest()
        if self.home == "cell":
            return self.made[last]
        if self.home == "round":
            # What was put last into the same place.
            return self.made[last - (last - count) % self.number]
        return None if count in self.lost else self.made[count]

    def lose(self, used):
        """Let go what is let go behind uses of the values of these counts."""
        for count in range(len(self.made)):
            is_above = self.home == "stack" and any([count > other for other in used])
            is_ahead = self.home == "queue" and any([count < other for other in used])
            if is_above or is_ahead:
                self.lost[count] = True


class Playing:
    """A run of CODE by a TREE."""

    def __init__(self, code, tree):
        homes, self.procedures, self.asks = code
        self.stores = [Store(home, number) for home, number in homes]
        # The nodes: their RULES, and the numbers of the nodes below; the root is 0.
        self.rules, self.kids = [], []
        self.lay_nodes(tree)
        self.gone = [0 for _ in self.rules]
        # By node and NAME: the handles.
        self.handles = {}
        self.many, self.rows_read = 0, []

    def lay_nodes(self, tree):
        """Number the nodes."""
        waiting = [(0, tree, None)]
        while waiting:
            procedure, (number, trees), caller = waiting.pop()
            node, rule = len(self.rules), self.procedures[procedure][number]
            self.rules.append(rule)
            self.kids.append([])
            if caller is not None:
                self.kids[caller].append(node)
            waiting.extend([(at, part, node) for at, part in reversed(list(zip(rule[0], trees)))])

    def slot_of(self, node, word):
        """Give the slot that a WORD of this node's RULE tells."""
        if isinstance(word, str):
            return node, word
        return self.kids[node][word[0]], word[1]

    def handle_of(self, node, source):
        """Give the handle that a SOURCE tells."""
        part, word = source
        if part is None:
            return self.handles[self.slot_of(node, word)]
        return part, self.stores[part].youngest()

    def read(self, node, sources):
        """Read SOURCES; what this lets be lost is lost behind it."""
        handles = [self.handle_of(node, source) for source in sources]
        self.rows_read.append(tuple([self.stores[part].found_at(count) for part, count in handles]))
        for at, store in enumerate(self.stores):
            store.lose([count for part, count in handles if part == at])

    def make(self, node, step):
        """Do a make."""
        _, part, word, sources = step
        self.read(node, sources)
        store = self.stores[part]
        store.made.append(self.many)
        self.many += 1
        if word is not None:
            self.handles[self.slot_of(node, word)] = (part, store.youngest())

    def run_row(self, visit):
        """Do the row of the root for this visit, with all that it goes to."""
        frames = [[0, visit, 0]]
        while frames:
            node, turn, number = frames[-1]
            row = self.rules[node][1][turn]
            if number == len(row):
                frames.pop()
                continue
            frames[-1][2] += 1
            step = row[number]
            if step[0] == "go":
                kid = self.kids[node][step[1]]
                frames.append([kid, self.gone[kid], 0])
                self.gone[kid] += 1
            elif step[0] == "make":
                self.make(node, step)
            else:
                self.handles[self.slot_of(node, step[1])] = self.handle_of(node, step[2])

    def play(self):
        """Run all; list what is read."""
        for visit, sources in enumerate(self.asks):
            self.run_row(visit)
            self.read(0, sources)
        return self.rows_read
