"""What of a value is heard: by whom it is asked for, and through which makes."""

from crossnest.growth import Growth, Rush
from crossnest.hunts import first_tree
from crossnest.passing import Passing, members_of
from crossnest.plans import HAND, MAKE, Plan, Plans
from crossnest.streams import member_of
from crossnest.trails import Search, Tracing


class Hearing(Tracing):
    """A search for a make of a value of a pair and an asking that uses it, or one that hangs on it."""

    def __init__(self, plans, pair):
        super().__init__(plans, Search((("make", 0, {pair: True}), ("use", 0, None)), 1))

    def usings(self, trip, act, guess):
        """List the Trips behind a make: what is made of the value hangs on it."""
        if trip.held[guess] & act[2]:
            trip.set_held(guess, act[1])
        return None


def tree_hearing(program, pair):
    """Give a TREE with the fewest nodes in whose RUN a value of the pair is heard, None without."""
    return first_tree(Growth(program, Hearing(Plans(program), pair)))


class Hanging(Plan):
    """A Plan whose makes hand on what they are made of: so what hangs on a value goes with it."""

    def lay_act(self, act):
        """Put one more act behind the others."""
        if act[0] == MAKE:
            act = (HAND, act[1], act[2], None)
        super().lay_act(act)


class HangingPlans(Plans):
    """Such Plans of a PROGRAM."""

    def lay_plans(self, seat):
        """Make the Plans of a SEAT."""
        return [
            Hanging(self.source, self.ports, seat, number)
            for number in range(len(self.source[seat[0]][2]))
        ]


class Shading(Passing):
    """How members come of each other, all of them being kept, however many there are."""

    def __init__(self, plans):
        super().__init__(plans, True)

    def wants(self, key, code, codes):
        """Tell whether a member is to be kept."""
        return True


def told_shadow(ports, member):
    """Give the SHADOW that a member tells."""
    return tuple(sorted([
        (ports.names[port], out) for port in range(ports.many_ins)
        for out in ports.names_in(member[1 + port] >> 1)
    ]))


def shadow_of(program, procedure, tree):
    """Give the SHADOW of a TREE of this PROCEDURE."""
    plans = HangingPlans(program)
    member = member_of(plans, (procedure, len(program[procedure][0])), tree)
    return told_shadow(plans.ports[procedure], member)


def shadows_of(program, procedure):
    """List the SHADOWS of all TREES of this PROCEDURE, ascending."""
    plans, seat = HangingPlans(program), (procedure, len(program[procedure][0]))
    growth = Rush(program, Shading(plans))
    growth.ask(seat)
    growth.grow()
    return sorted([
        told_shadow(plans.ports[procedure], member) for member, _ in members_of(plans, growth, seat)
    ])
