"""Searches for a value in the frame of a node, the *owner* (see trails)."""

from crossnest.plans import ENTER, GO
from crossnest.trails import NOBODY, SELF, Search, Tracing


class Owning(Tracing):
    """A search for the value of guess 0 that is made for a NAME in the frame of a node of a
    PROCEDURE, which has this RULE if one is told."""

    def __init__(self, plans, aims, procedure, rule, name):
        super().__init__(plans, Search(aims, 1))
        self.procedure, self.rule, self.name = procedure, rule, name
        ports = plans.ports[procedure]
        bit = ports.bits.get(name, 0)
        # The visit of which the NAME is an IN, None if it is none.
        self.coming = None
        for visit, mask in enumerate(ports.in_masks):
            if mask & bit:
                self.coming = visit

    def may_own(self, plan):
        """Tell whether the value can be in the frame of a node with this RULE."""
        return plan.seat[0] == self.procedure and self.rule in (None, plan.number)

    def births(self, trip, act, guess):
        """List the Trips in which this make makes the value."""
        owner = self.owner_by(trip, act)
        if owner is None:
            return []
        found = super().births(trip, act, guess)
        for more in found:
            more.owner = owner
        return found

    def owner_by(self, trip, act):
        """Tell who owns the value if this make makes it, None if that can not be."""
        if act[1] == trip.plan.bits.get(self.name, 0):
            return SELF if trip.owner == NOBODY and self.may_own(trip.plan) else None
        for place in range(len(trip.waiting)):
            if act[1] == trip.plan.bits.get((place, self.name), 0):
                # Ahead of a later visit the callee is chosen, and known to be the owner.
                is_chosen = 0 < self.coming < trip.plan.goes[place]
                return place if trip.owner == (place if is_chosen else NOBODY) else None
        return None

    def branches(self, trip, act):
        """List the Trips behind an act: no value is made in one callee for the frame of another."""
        if act[0] == GO and trip.waiting[act[1]] and trip.owner not in (NOBODY, act[1]):
            phase, _, after, _ = trip.waiting[act[1]][0]
            if phase == 0 and after > 0:
                return []
        return super().branches(trip, act)

    def enterings(self, trip, act):
        """List the Trips behind the begin of a visit: the value may just have been made for it."""
        found = super().enterings(trip, act)
        if trip.owner >= 0:
            # It is yet to be made here, if it is not made by now.
            return [more for more in found if trip.phase > 0 or more.phase == 0]
        is_free = trip.owner == NOBODY and trip.phase == 0
        if is_free and act[1] == self.coming and self.may_own(trip.plan):
            bit = trip.plan.own.bits[self.name]
            for other in list(found):
                # Where it is not followed any more, it is not told where it stands.
                is_there = other.begun[1][0] & bit or other.phase == self.search.end
                if other.phase >= 1 and is_there:
                    more = other.twin()
                    more.owner = SELF
                    found.append(more)
        return found

    def meet(self, state, result):
        """Choose a result for the callee that is waited for."""
        place, more = super().meet(state, result)
        owner = state[8]
        if result[1] and owner != place:
            if owner != NOBODY:
                return None
            owner = place
        return place, more[:8] + (owner, more[9])


class Keeping(Owning):
    """A search for a make and a use of its value that tells the last station of the owner ahead
    of the use."""

    def __init__(self, plans, procedure, rule, name):
        pairs = {(procedure, name): True}
        aims = (("make", 0, pairs), ("use", 0, None))
        super().__init__(plans, aims, procedure, rule, name)
        self.stations = {}

    def stations_of(self, plan):
        """List, for each act of a Plan, the last station at which the node stood ahead of it."""
        mark = (plan.seat, plan.number)
        if mark not in self.stations:
            found, station = [], (0, 0)
            for act in plan.acts:
                if act[0] == ENTER and act[1] > 0:
                    found.append((act[1] - 1, found[-1][1]))
                    station = (act[1], 0)
                elif act[0] == ENTER:
                    found.append(station)
                else:
                    found.append(station)
                    station = (station[0], station[1] + 1)
            self.stations[mark] = found
        return self.stations[mark]

    def starts(self, key):
        """List the Courses as they begin, and the places to which they do not go."""
        if key[3] and key[1] != 1:
            # The value was used ahead of all stations.
            return []
        return super().starts(key)

    def branches(self, trip, act):
        """List the Trips behind an act, as they go on to the use."""
        station = self.stations_of(trip.plan)[trip.at]
        more = super().branches(trip, act)
        for other in [trip] if more is None else more:
            if other.owner == SELF and other.phase == 2 and other.extra is None:
                other.extra = station
        return more

    def enterings(self, trip, act):
        """List the Trips behind the begin of a visit."""
        found = super().enterings(trip, act)
        # What was made and used ahead of this visit does not matter to a new owner.
        return [more for more in found if trip.owner == more.owner or more.phase == 1]

    def usings(self, trip, act, guess):
        """List the Trips behind a make that may use the value."""
        if trip.held[0] & act[2] == 0:
            return None
        # Behind this use there may be a later one.
        more = trip.twin()
        more.reach(2)
        return [trip, more]

    def behind_asking(self, phase, outs):
        """List the phases that there can be behind the asking of a visit."""
        found = super().behind_asking(phase, outs)
        return found if phase in found else [phase] + found

    def meet(self, state, result):
        """Choose a result for the callee that is waited for."""
        met = super().meet(state, result)
        if met is None or (state[9] is not None and result[2] is not None):
            return None
        place, more = met
        return place, more[:9] + (more[9] if result[2] is None else result[2],)

    def result_of(self, trip):
        """Give the result at the end of the Course: the use may come behind all its visits."""
        if trip.owner == SELF and trip.extra is None:
            trip.extra = self.stations_of(trip.plan)[-1]
        return super().result_of(trip)

    def group_of(self, result):
        """Give what results must have alike, if one of them does all that another one does."""
        return tuple([row[:3] for row in result[0]]), result[1], result[2] is None

    def does_all(self, one, other):
        """Tell whether one result does all that the other one of its group does."""
        is_later = one[2] is None or one[2] >= other[2]
        return is_later and super().does_all(one, other)


class Clashing(Owning):
    """A search for a make, the make for another NAME in the same frame, and a use of the first
    value."""

    def __init__(self, plans, procedure, name, other):
        pairs = {(procedure, name): True}
        aims = (("make", 0, pairs), ("beside", None, None), ("use", 0, None))
        super().__init__(plans, aims, procedure, None, name)
        self.other = other

    def makings(self, trip, act):
        """List the Trips behind a make."""
        if trip.phase != 1:
            return super().makings(trip, act)
        word = self.other if trip.owner == SELF else (trip.owner, self.other)
        if act[1] != trip.plan.bits.get(word, 0):
            return None
        trip.reach(2)
        return [trip]
