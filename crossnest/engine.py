"""An engine: it makes a RUN, its RULES being chosen as it goes, and keeps values in homes."""

from crossnest.errors import CanNot, NoRule, NothingDone, Unfit
from crossnest.forms import frozen
from crossnest.goings import Going, tree_by
from crossnest.layouts import has_layout
from crossnest.losses import lost_from

# What is let go by what is alive.
LASTING = ("region", "order", "homes")


class Engine:
    """A RUN of a PROGRAM, with the homes of a LAYOUT."""

    def __init__(self, program, layout):
        program, layout = frozen(program), frozen(layout)
        if not has_layout(program, layout):
            raise Unfit()
        self.source, self.layout = program, layout
        # The RULES chosen, by PATHS, and how many EVENTS are behind.
        self.rules, self.behind = {}, 0
        self.going = Going(program, self.rules)

    def wants(self):
        """Give the PATH of the node whose RULE is wanted, None if none is."""
        return self.going.next_path() if self.going.many <= self.behind else None

    def choose(self, rule):
        """Choose the RULE of the node for which one is wanted."""
        if self.wants() is None:
            raise NothingDone()
        if not 0 <= rule < len(self.going.rules_there()):
            raise NoRule(rule)
        self.rules = self.going.rules_with(rule)
        self.going = Going(self.source, self.rules)

    def step(self):
        """Do the next EVENT; give its number."""
        if self.wants() is not None:
            raise Unfit()
        if self.ended():
            raise CanNot()
        self.behind += 1
        return self.behind - 1

    def go_on(self):
        """Do EVENTS until a RULE is wanted or the RUN has ended; tell how many are behind then."""
        self.behind = self.going.many
        return self.behind

    def ended(self):
        """Tell whether the RUN has ended."""
        return self.wants() is None and self.behind == len(self.going.walk.steps)

    def tree(self):
        """Give the RULES chosen, None for a node that has none."""
        return tree_by(self.source, self.rules, [None for _ in self.source])

    def alive(self):
        """Give the set of the values alive at the MOMENT of now."""
        return self.going.alive_by(self.behind)

    def check_homes(self):
        """Raise TooMany as alive_at does, if a home asks what is alive."""
        if [home for home, _, _ in self.layout if home in LASTING]:
            self.going.check_passings()

    def losses(self, part):
        """Give a pair for a part: its values made so far, and for each that is lost the first
        MOMENT at which it is; what comes behind the MOMENT of now is not told."""
        home, number, lot = part
        values = [value for value in self.going.walk.values_in(lot) if value < self.behind]
        lasts = {}
        if home in LASTING:
            lasts = {value: self.going.last_of(value) for value in values}
        users = self.going.users_by(self.behind)
        return values, lost_from(home, number, values, users, lasts)

    def kept(self, number):
        """Give the set of the values of this part that are made and not lost."""
        if not 0 <= number < len(self.layout):
            raise Unfit()
        self.check_homes()
        values, lost = self.losses(self.layout[number])
        return tuple([
            value for value in values if value not in lost or lost[value] > self.behind
        ])

    def misread(self):
        """Give the set of the pairs (event, value) misread so far."""
        self.check_homes()
        users, found = self.going.users_by(self.behind), []
        for part in self.layout:
            for value, moment in self.losses(part)[1].items():
                found.extend([(event, value) for event in users.get(value, []) if event >= moment])
        return tuple(sorted(found))

    def outs(self):
        """Give, for each asking that is behind, the pairs (name, value) of what it used."""
        walk, found = self.going.walk, []
        for event in range(self.behind):
            if walk.steps[event][0] == "ask":
                names = walk.steps[event][1]
                found.append(tuple([(name, walk.value_at[(0, name)]) for name in names]))
        return tuple(found)

    def twin(self):
        """Give an Engine that is as far, with the same program, LAYOUT and RULES."""
        other = Engine(self.source, self.layout)
        # Both may have the same of these: they are never changed, others come in their place.
        other.rules, other.going, other.behind = self.rules, self.going, self.behind
        return other

    def __eq__(self, other):
        """Tell whether other is an Engine with the same program, LAYOUT, RULES and EVENTS."""
        return (
            isinstance(other, Engine) and self.source == other.source
            and self.layout == other.layout and self.rules == other.rules
            and self.behind == other.behind
        )
