"""What TREES do at SEATS for a search: a row of aims that EVENTS of a RUN meet one by one.

In *phase* m the first m aims are met. A guess is *followed* in the phases behind the one in which
its value is made, up to its last use. A row of a visit is (phase, ins, phase, outs): the phases
at its begin and at its end, and for each guess the INS and the OUTS at which its value stands,
by bits (see plans), 0 if it is not followed by then. A result is (rows, owner, extra): owner tells
whether the root is the owner (see owners), extra what a search keeps besides. A key is
(seat, phase, ins, owner): how the first visit begins, and whether the root is the owner then.
"""

from crossnest.guesses import replaced, spread_ins, whole_courses
from crossnest.plans import ENTER, GO, HAND, MAKE

# What is known of the value of a guess: not made inside; made inside and not at an OUT of a
# visit that is done; made inside and such an OUT came to have it.
OUTSIDE = 0
INSIDE = 1
LEFT = 2

# Whose frame has the value: that of no node that is known here, that of this one. A place tells
# that of the callee there.
NOBODY = -1
SELF = -2


class Search:
    """A row of aims: triples (deed, guess, pairs), pairs the values that a make is to make."""

    def __init__(self, aims, guesses):
        self.aims, self.guesses, self.end = aims, guesses, len(aims)
        self.born, self.last = [], []
        for guess in range(guesses):
            at = [number for number, aim in enumerate(aims) if aim[1] == guess]
            self.born.append(at[0])
            self.last.append(at[-1])

    def follows(self, guess, phase):
        """Tell whether it matters where the value of a guess stands."""
        return self.born[guess] < phase <= self.last[guess]

    def is_use_of(self, phase, marks):
        """Tell whether the next aim is a use of a guess for which marks has a mark."""
        if phase == self.end or self.aims[phase][0] != "use":
            return False
        return marks[self.aims[phase][1]] > 0


class Trip:
    """How far a Course is gone in a search, and by which choices."""

    def __init__(self, course, search, state):
        self.course, self.plan, self.search = course, course.plan, search
        self.mark_of_course, self.at, self.phase, self.held = state[:4]
        # How this visit began, the rows of those that are done, what is known of the guesses.
        self.begun, self.rows, self.left = state[4:7]
        # For each place the rows still to come of its callee: None before it is chosen.
        self.waiting, self.owner, self.extra = state[7:]
        # What was counted since the state.
        self.gain = 0

    def state(self):
        """Give the state."""
        alive = self.plan.needed[self.at]
        held = tuple([words & alive for words in self.held])
        return (
            self.mark_of_course, self.at, self.phase, held, self.begun, self.rows, self.left,
            self.waiting, self.owner, self.extra,
        )

    def twin(self):
        """Give a Trip that is as far, by the same choices."""
        more = Trip(self.course, self.search, self.state())
        more.gain = self.gain
        return more

    def act(self):
        """Give the act that is to be done next."""
        return self.plan.acts[self.at]

    def reach(self, phase):
        """Come to a phase; the values that are not followed any more are forgotten."""
        self.phase = phase
        self.held = tuple([
            words if self.search.follows(guess, phase) else 0
            for guess, words in enumerate(self.held)
        ])

    def set_held(self, guess, words):
        """Let the value of a guess stand at these WORDS, too, if it is followed."""
        if words and self.search.follows(guess, self.phase):
            self.held = replaced(self.held, guess, self.held[guess] | words)

    def bear(self, guess, words):
        """Let the value of a guess be made now, at these WORDS."""
        self.left = replaced(self.left, guess, INSIDE)
        self.reach(self.phase + 1)
        self.set_held(guess, words)

    def enter(self, phase, ins):
        """Begin a visit."""
        self.reach(phase)
        self.begun = (phase, ins)
        for guess, words in enumerate(ins):
            self.set_held(guess, words)

    def hand(self, act):
        """Do a hand."""
        for guess, words in enumerate(list(self.held)):
            if words & act[2]:
                self.set_held(guess, act[1])

    def leave(self, act):
        """End a visit."""
        outs = tuple([words & act[2] for words in self.held])
        self.rows = self.rows + (self.begun + (self.phase, outs),)
        for guess, words in enumerate(outs):
            if words and self.left[guess] == INSIDE:
                self.left = replaced(self.left, guess, LEFT)

    def ins_of(self, act):
        """Give for each guess at which INS of the visit to which the act goes it stands."""
        ports, offset = self.plan.ports[act[1]], self.plan.offsets[act[1]]
        return tuple([words >> offset & ports.in_masks[act[2]] for words in self.held])

    def go(self, act):
        """Do a go to a callee that is chosen; tell whether its rows are fit for it."""
        place = act[1]
        phase, ins, after, outs = self.waiting[place][0]
        if phase != self.phase or ins != self.ins_of(act):
            return False
        self.reach(after)
        for guess, words in enumerate(outs):
            self.set_held(guess, words << self.plan.offsets[place])
            if phase <= self.search.born[guess] < after:
                self.left = replaced(self.left, guess, INSIDE)
        self.waiting = replaced(self.waiting, place, self.waiting[place][1:])
        return True

    def is_late(self):
        """Tell whether a callee's next visit had to begin in an earlier phase, or a value that is
        still to be used stands nowhere any more."""
        is_settled = True
        for rows in self.waiting:
            if rows:
                is_settled = False
                if rows[0][0] < self.phase:
                    return True
        return is_settled and self.is_lost()

    def is_lost(self):
        """Tell whether a value that was made inside, and is followed, can not be read any more."""
        alive = self.plan.needed[self.at]
        for guess, words in enumerate(self.held):
            if self.left[guess] == INSIDE and words & alive == 0:
                if self.search.follows(guess, self.phase):
                    return True
        return False


class Tracing:
    """How results come of the results of callees, for a search (for Growth)."""

    def __init__(self, plans, search):
        self.plans, self.search = plans, search
        self.stored, self.groups = {}, {}

    def courses(self, seat):
        """List the Courses of the PROCEDURE of a SEAT."""
        if seat not in self.stored:
            self.stored[seat] = whole_courses(self.plans, seat)
        return self.stored[seat]

    def trip_of(self, state):
        """Give the Trip of a state."""
        return Trip(self.courses(state[0][0])[state[0][1]], self.search, state)

    def callees_of(self, key, rule):
        """Give the callees of this RULE."""
        return self.plans.source[key[0][0]][2][rule][0]

    def start_key(self):
        """Give the key of the start."""
        none = tuple([0 for _ in range(self.search.guesses)])
        return (0, len(self.plans.source[0][0])), 0, none, False

    def first_extra(self):
        """Give what a state keeps besides, at its start."""
        return None

    def starts(self, key):
        """List the Courses as they begin, and the places to which they do not go."""
        seat, phase, ins, is_owner = key
        none = tuple([0 for _ in ins])
        found = []
        for number, course in enumerate(self.courses(seat)):
            if is_owner and not self.may_own(course.plan):
                continue
            waiting = tuple([() if where is None else None for where in course.seats])
            owner = SELF if is_owner else NOBODY
            state = (
                (seat, number), 1, phase, none, (phase, ins), (), none, waiting, owner,
                self.first_extra(),
            )
            trip = self.trip_of(state)
            trip.enter(phase, ins)
            found.append((course.plan.number, trip.state(), course.places_left_out()))
        return found

    def may_own(self, plan):
        """Tell whether the value can be in the frame of a node with this RULE."""
        return True

    def run(self, state):
        """Go on to the next callees that are to be chosen, and to the ends."""
        return [(wanted, outcome) for wanted, outcome, _ in self.run_counting(state)]

    def run_counting(self, state):
        """Do so; each pair has what was counted behind it."""
        trips, found = [self.trip_of(state)], []
        while trips:
            trips.extend(self.go_on(trips.pop(), found))
        return found

    def go_on(self, trip, found):
        """Go on to an act by which there are several Trips; list these."""
        while trip.at < trip.course.stop:
            act = trip.act()
            if act[0] == GO and trip.waiting[act[1]] is None:
                found.append((self.wanted(trip, act), trip.state(), trip.gain))
                return []
            more = self.branches(trip, act)
            if more is not None:
                for branch in more:
                    branch.at += 1
                return [branch for branch in more if not branch.is_late()]
            trip.at += 1
        if not trip.is_lost():
            found.append((None, self.result_of(trip), trip.gain))
        return []

    def wanted(self, trip, act):
        """Give the key of the callee that is to be chosen."""
        seat, is_owner = trip.course.seats[act[1]], trip.owner == act[1]
        return seat, trip.phase, trip.ins_of(act), is_owner

    def branches(self, trip, act):
        """List the Trips behind an act; None if it is this one alone, with the act done."""
        if act[0] == ENTER:
            return self.enterings(trip, act)
        if act[0] == MAKE:
            return self.makings(trip, act)
        if act[0] == GO:
            return [trip] if trip.go(act) else []
        if act[0] == HAND:
            trip.hand(act)
        else:
            trip.leave(act)
        return None

    def enterings(self, trip, act):
        """List the Trips behind the begin of a visit: others may have met some aims."""
        found, search = [], self.search
        for phase in range(trip.phase, search.end + 1):
            hidden = [1 if left == INSIDE else 0 for left in trip.left]
            if phase > trip.phase and search.is_use_of(phase - 1, hidden):
                break
            guesses = [
                guess for guess in range(search.guesses)
                if search.follows(guess, phase) and not hidden[guess]
            ]
            for ins in spread_ins(trip.plan.own, act[1], guesses, search.guesses):
                more = trip.twin()
                more.enter(phase, ins)
                found.append(more)
        return found

    def makings(self, trip, act):
        """List the Trips behind a make, as branches does."""
        if trip.phase == self.search.end:
            return None
        deed, guess, pairs = self.search.aims[trip.phase]
        if deed == "use":
            return self.usings(trip, act, guess)
        if act[3] not in pairs:
            return None
        if guess is None:
            trip.reach(trip.phase + 1)
            return [trip]
        return [trip] + self.births(trip, act, guess)

    def usings(self, trip, act, guess):
        """List the Trips behind a make that may use the value of a guess."""
        if trip.held[guess] & act[2] == 0:
            return None
        trip.reach(trip.phase + 1)
        return [trip]

    def births(self, trip, act, guess):
        """List the Trips in which this make makes the value of a guess."""
        more = trip.twin()
        more.bear(guess, act[1])
        return [more]

    def meet(self, state, result):
        """Choose a result for the callee that is waited for."""
        seat, number = state[0]
        place = self.courses(seat)[number].plan.acts[state[1]][1]
        return place, state[:7] + (replaced(state[7], place, result[0]),) + state[8:]

    def result_of(self, trip):
        """Give the result at the end of the Course."""
        return trip.rows, trip.owner == SELF, trip.extra

    def group_of(self, result):
        """Give what results must have alike, if one of them does all that another one does."""
        return tuple([row[:2] for row in result[0]]), result[1], result[2]

    def wants(self, key, result, results):
        """Tell whether a result is to be kept: whether no other one does all that it does."""
        group = self.groups.setdefault((key, self.group_of(result)), [])
        for other in group:
            if self.does_all(other, result):
                return False
        group.append(result)
        return True

    def worse(self, result, results):
        """List the results that are not to be kept beside this one."""
        return []

    def does_all(self, one, other):
        """Tell whether one result does all that the other one of its group does."""
        search = self.search
        for row, less in zip(one[0], other[0]):
            if row[2] < less[2]:
                return False
            for phase in range(less[2], row[2]):
                guess = search.aims[phase][1]
                # Whoever is yet to make a value that is followed may make one that does more.
                if guess is not None and search.born[guess] == phase < search.last[guess]:
                    return False
            for guess in range(search.guesses):
                if search.follows(guess, row[2]) and less[3][guess] & ~row[3][guess]:
                    return False
        return True

    def is_met(self, result):
        """Tell whether all aims are met in the RUN of a TREE with this result of the start."""
        phases = [0]
        for phase, _, after, outs in result[0]:
            if phase not in phases:
                return False
            phases = self.behind_asking(after, outs)
        return self.search.end in phases

    def behind_asking(self, phase, outs):
        """List the phases that there can be behind the asking of a visit."""
        if self.search.is_use_of(phase, outs):
            return [phase + 1]
        return [phase]
