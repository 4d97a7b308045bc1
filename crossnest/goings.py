"""A RUN as far as it has gone, its RULES being chosen on the way."""

from crossnest.alive import chances_of
from crossnest.leasts import least_table
from crossnest.walks import run_of


def tree_by(program, rules, fills):
    """Give the TREE with these RULES at their PATHS; where none is, what fills has for the
    PROCEDURE there."""
    rows, waiting = [], [((), 0)]
    while waiting:
        path, procedure = waiting.pop()
        rows.append((path, procedure))
        if path in rules:
            callees = program[procedure][2][rules[path]][0]
            waiting.extend([(path + (place,), callee) for place, callee in enumerate(callees)])
    done = {}
    for path, procedure in reversed(rows):
        done[path] = fills[procedure]
        if path in rules:
            many = len(program[procedure][2][rules[path]][0])
            done[path] = (rules[path], tuple([done[path + (place,)] for place in range(many)]))
    return done[()]


class Going:
    """The RUN of the least TREE that has some RULES at some PATHS, up to the first node that has
    none; rules is a dict."""

    def __init__(self, program, rules):
        self.source, self.rules = program, rules
        self.smallest = tree_by(program, rules, [told[1] for told in least_table(program)])
        self.walk = run_of(program, self.smallest)
        # That node, and how many EVENTS are ahead of it.
        self.next_node, self.many = None, len(self.walk.steps)
        for node in reversed(self.walk.order):
            if self.walk.paths[node] not in rules:
                self.next_node, self.many = node, max(0, self.walk.entered[node])
        # What was asked for so far: the Chances of the RUN, and the last MOMENTS of its values.
        self.chances, self.lasts = None, {}

    def next_path(self):
        """Give the PATH of the first node that has no RULE, None if all that are gone to have one."""
        return None if self.next_node is None else self.walk.paths[self.next_node]

    def rules_there(self):
        """Give the RULES of the PROCEDURE of this node."""
        return self.source[self.walk.procedures[self.next_node]][2]

    def rules_with(self, rule):
        """Give the RULES with this one at this node, too."""
        rules = {path: told for path, told in self.rules.items()}
        rules[self.next_path()] = rule
        return rules

    def last_of(self, value):
        """Give the last MOMENT at which a value is alive, None if there is none; raise TooMany as
        alive_at does. One that has not come yet tells just that the value is alive up to now."""
        self.check_passings()
        if value not in self.lasts:
            self.lasts[value] = self.chances.last_of(value)
        return self.lasts[value]

    def check_passings(self):
        """Raise TooMany as alive_at does."""
        if self.chances is None:
            self.chances = chances_of(self.source, self.smallest)

    def alive_by(self, behind):
        """Give the set of the values that are alive if so many EVENTS are behind."""
        self.check_passings()
        lasts = {value: self.last_of(value) for value in range(behind) if self.walk.makes_value(value)}
        return tuple([
            value for value, last in lasts.items() if last is not None and last >= behind
        ])

    def users_by(self, behind):
        """Give a dict with, for each value, the EVENTS that use it, if so many are behind."""
        return {
            value: [event for event in events if event < behind]
            for value, events in self.walk.users_of_values().items() if value < behind
        }
