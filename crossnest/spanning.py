"""Searches for a make and a use of its value that count the makes between."""

from crossnest.trails import Search, Tracing


class Spanning(Tracing):
    """Such a search, for a web: what counts is told as a gain (see webs)."""

    def __init__(self, plans, lot):
        self.pairs = {pair: True for pair in lot}
        super().__init__(plans, Search((("make", 0, self.pairs), ("use", 0, None)), 1))

    def makings(self, trip, act):
        """List the Trips behind a make."""
        if trip.phase != 1:
            return super().makings(trip, act)
        found = [trip]
        if trip.held[0] & act[2] > 0:
            # Behind this use there may be a later one, with more makes ahead of it.
            more = trip.twin()
            more.reach(2)
            found.append(more)
        if act[3] in self.pairs:
            self.count_make(trip)
        return found

    def count_make(self, trip):
        """Count one make more."""
        trip.gain += 1

    def behind_asking(self, phase, outs):
        """List the phases that there can be behind the asking of a visit."""
        found = super().behind_asking(phase, outs)
        return found if phase in found else [phase] + found


class Counting(Spanning):
    """Such a search, for Growth: the pair of the value, if it is asked for, and the number of
    the makes between, up to what is enough, are kept as extra."""

    def __init__(self, plans, lot, enough, is_named):
        super().__init__(plans, lot)
        self.enough, self.is_named = enough, is_named

    def first_extra(self):
        """Give what a state keeps besides, at its start."""
        return None, 0

    def count_make(self, trip):
        """Count one make more."""
        pair, many = trip.extra
        trip.extra = (pair, min(self.enough, many + 1))

    def births(self, trip, act, guess):
        """List the Trips in which this make makes the value."""
        found = super().births(trip, act, guess)
        if self.is_named:
            for more in found:
                more.extra = (act[3], more.extra[1])
        return found

    def meet(self, state, result):
        """Choose a result for the callee that is waited for."""
        (pair, many), (other, more) = state[9], result[2]
        if pair is not None and other is not None:
            return None
        place, met = super().meet(state, result)
        extra = (other if pair is None else pair, min(self.enough, many + more))
        return place, met[:9] + (extra,)

    def group_of(self, result):
        """Give what results must have alike, if one of them does all that another one does."""
        return tuple([row[:3] for row in result[0]]), result[2][0]

    def does_all(self, one, other):
        """Tell whether one result does all that the other one of its group does."""
        return one[2][1] >= other[2][1] and super().does_all(one, other)

    def is_met(self, result):
        """Tell whether all is met in the RUN of a TREE with this result of the start."""
        return result[2][1] == self.enough and super().is_met(result)
