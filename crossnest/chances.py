"""Which values of a RUN can still be used, whatever RULES are followed that are not known yet."""

from crossnest.leasts import with_part
from crossnest.passing import best_passings
from crossnest.plans import Plans
from crossnest.walks import run_of


class Chances:
    """A RUN, with all that can be done by the callees that are open at a MOMENT."""

    def __init__(self, program, tree):
        self.given = tree
        self.walk = run_of(program, tree)
        self.plans = Plans(program)
        self.slots = self.walk.slots_of_values()
        self.users = self.walk.users_of_values()
        seats = {}
        for node in range(1, len(self.walk.paths)):
            if self.walk.gone[node] > 0:
                seats[self.seat_of(node)] = True
        self.best = best_passings(self.plans, sorted(seats))

    def seat_of(self, node):
        """Give the SEAT of a node."""
        return self.walk.procedures[node], self.walk.gone[node]

    def readings(self, slot, moment):
        """List where the value of a slot goes by EVENTS that are left: None tells a use."""
        return [
            target for event, node, target in self.walk.readers.get(slot, [])
            if event >= moment and self.walk.is_known(node, moment)
        ]

    def is_way_in(self, slot, moment):
        """Tell whether the slot is an IN of a node that is open and gone to."""
        node, name = slot
        if not self.walk.is_open(node, moment) or self.walk.gone[node] == 0:
            return False
        ports = self.plans.ports[self.walk.procedures[node]]
        return ports.names.index(name) < ports.many_ins

    def ways_through(self, slot, picks):
        """List what can become of a value that comes into an open node at this slot.

        These are pairs (slot, picks), the slot None for a use. picks has the pairs of a node
        and the number of its member, which must be the same whenever the value comes by.
        """
        node, name = slot
        best, found = self.best[self.seat_of(node)], []
        ports = self.plans.ports[self.walk.procedures[node]]
        picked = [number for other, number in picks if other == node]
        more = picks
        for number in range(len(best)):
            if picked and number not in picked:
                continue
            if not picked:
                more = picks + ((node, number),)
            does = best[number][0][1 + ports.names.index(name)]
            if does & 1:
                found.append((None, more))
            for out in ports.names_in(does >> 1):
                found.append(((node, out), more))
        return found

    def marks_of(self, picks):
        """Give those picks that can matter again: of nodes that are gone to several times."""
        return tuple(sorted([pick for pick in picks if self.walk.gone[pick[0]] > 1]))

    def way_to_use(self, value, moment):
        """Give picks by which the value is used at an EVENT from moment on, None without any."""
        waiting = [(slot, ()) for slot in self.slots[value] if self.walk.set_at[slot] < moment]
        seen = {}
        while waiting:
            slot, picks = waiting.pop()
            if slot is None:
                return picks
            mark = (slot, self.marks_of(picks))
            if mark in seen:
                continue
            seen[mark] = True
            waiting.extend([(target, picks) for target in self.readings(slot, moment)])
            if self.is_way_in(slot, moment):
                waiting.extend(self.ways_through(slot, picks))
        return None

    def is_alive(self, value, moment):
        """Tell whether a value that is made by then is alive at a MOMENT."""
        used = self.users.get(value, [])
        if used and used[-1] >= moment:
            return True
        return self.way_to_use(value, moment) is not None

    def tree_of_use(self, value, moment):
        """Give a TREE with the same known nodes in which the value is used, None without."""
        picks = self.way_to_use(value, moment)
        if picks is None:
            return None
        tree = self.given
        for node, number in picks:
            part = self.best[self.seat_of(node)][number][1]
            tree = with_part(tree, self.walk.paths[node], part)
        return tree

    def last_of(self, value):
        """Give the greatest MOMENT at which the value is alive, None if there is none."""
        used = self.users.get(value, [])
        low, high = used[-1] if used else value + 1, len(self.walk.steps)
        if not used and not self.is_alive(value, low):
            return None
        # Alive at low and dead at high: once dead, a value stays so.
        while high - low > 1:
            middle = (low + high) // 2
            if self.is_alive(value, middle):
                low = middle
            else:
                high = middle
        return low

    def lasts_in(self, lot):
        """List the pairs (value, its last MOMENT) of the values of a LOT, ascending."""
        return [(value, self.last_of(value)) for value in self.walk.values_in(lot)]
