"""The PASSINGS of all TREES of a PROCEDURE: all of them, or those that do the most."""

from crossnest.errors import TooMany
from crossnest.growth import Growth, Rush
from crossnest.streams import advance, coded, decoded, lies_within, rest_of

MOST_PASSINGS = 4000


class Passing:
    """How members come of the members of callees (for Growth); keys are SEATS.

    A state is (seat, RULE's number, act, streams, told, members): a callee that is done with
    has () as its member. A result is the code of a member. If whole is False, members that are
    within other ones are left out.
    """

    def __init__(self, plans, whole):
        self.plans = plans
        self.whole = whole

    def plan_of(self, state):
        """Give the Plan of a state."""
        return self.plans.plans_of(state[0])[state[1]]

    def callees_of(self, key, rule):
        """Give the callees of this RULE."""
        return self.plans.plans_of(key)[rule].callees

    def starts(self, key):
        """List the RULES as they begin, and the places to which they do not go."""
        found = []
        for plan in self.plans.plans_of(key):
            empty = tuple([0 for _ in range(1 + plan.own.many_ins)])
            members = tuple([None if many > 0 else () for many in plan.goes])
            places = [at for at, many in enumerate(plan.goes) if many == 0]
            found.append((plan.number, (key, plan.number, 0, empty, empty, members), places))
        return found

    def run(self, state):
        """Go on to the next callee that is to be chosen, or to the end."""
        plan = self.plan_of(state)
        streams, told, members = list(state[3]), list(state[4]), state[5]
        at = advance(plan, state[2], streams, told, members)
        if at == len(plan.acts):
            return [(None, coded(told, plan.own.width))]
        place = plan.acts[at][1]
        left = tuple([stream & plan.needed[at] for stream in streams])
        rest = tuple([rest_of(plan, at, where, member) for where, member in enumerate(members)])
        wanted = (plan.callees[place], plan.goes[place])
        return [(wanted, (state[0], state[1], at, left, tuple(told), rest))]

    def meet(self, state, code):
        """Choose a member for the callee that is waited for."""
        seat, rule, at, streams, told, members = state
        plan = self.plan_of(state)
        place = plan.acts[at][1]
        ports = plan.ports[place]
        member = decoded(code, ports.width, 1 + ports.many_ins)
        chosen = members[:place] + (member,) + members[place + 1:]
        return place, (seat, rule, at, streams, told, chosen)

    def wants(self, key, code, codes):
        """Tell whether a member is to be kept."""
        if not self.whole:
            return not lies_within(code, codes)
        if len(codes) == MOST_PASSINGS:
            raise TooMany()
        return True

    def worse(self, code, codes):
        """List the members that are not to be kept beside this one."""
        if self.whole:
            return []
        return [other for other in codes if other & ~code == 0]


def most_thinkable(ports, visits):
    """Tell how many PASSINGS a PROCEDURE with these Ports may have for a number of visits."""
    most, coming = 1, 0
    for visit in range(visits):
        many = len(ports.ins_by_visit[visit])
        coming += many
        most = most << many
        for bit in ports.bits.values():
            if bit & ports.out_masks[visit]:
                most *= 1 + coming
    return most


def members_of(plans, growth, seat):
    """List the pairs (member, TREE) that were found for a SEAT."""
    ports = plans.ports[seat[0]]
    found = growth.found[seat]
    return [(decoded(code, ports.width, 1 + ports.many_ins), found[code][1]) for code in found]


def all_passings(plans, seats):
    """Give a dict with, for each of these SEATS, its members; raise TooMany as [7] has it."""
    growth = Rush(plans.source, Passing(plans, True))
    for seat in seats:
        growth.ask(seat)
    for procedure, ports in enumerate(plans.ports):
        for visits in range(1, len(ports.in_masks) + 1):
            # Only these can come to more than are let: the others need not grow for that.
            if most_thinkable(ports, visits) > MOST_PASSINGS:
                growth.ask((procedure, visits))
    growth.grow()
    return {seat: [member for member, _ in members_of(plans, growth, seat)] for seat in seats}


def grown_best(plans, seats, growth):
    """Let grow what does the most; give the dict of the pairs (member, TREE)."""
    for seat in seats:
        growth.ask(seat)
    growth.grow()
    return {seat: members_of(plans, growth, seat) for seat in seats}


def best_passings(plans, seats):
    """Give a dict with, for each of these SEATS, the pairs (member, TREE) that do the most."""
    return grown_best(plans, seats, Growth(plans.source, Passing(plans, False)))


def best_members(plans, seats):
    """Give a dict with, for each of these SEATS, the members that do the most, ascending."""
    best = grown_best(plans, seats, Rush(plans.source, Passing(plans, False)))
    return {seat: sorted([member for member, _ in best[seat]]) for seat in seats}
