"""How ENTRIES come of the ENTRIES of callees, by the choices of a RULE.

Here an ENTRY is a *result*: a pair (made, rows) as in the document, but with numbers that tell
ports (see plans) in the place of sets of NAMES. A key is a pair (seat, ins), ins telling for
each guess at which INS of the first visit its value stands. A state is what a Way's mark gives.
"""

from crossnest.plans import ENTER, GO, HAND, MAKE
from crossnest.shapes import many_guesses, matched_behind

# What is known of the value of a guess: nothing yet; that it comes from outside; that it is
# made inside and has not left; that it is made inside and stood at an OUT behind that.
UNSEEN = 0
OUTSIDE = 1
INSIDE = 2
LEFT = 3


class Course:
    """A Plan up to one of its acts, and the SEATS of its callees there (None: they do not matter)."""

    def __init__(self, plan, stop, seats, ending):
        self.plan, self.stop, self.seats, self.ending = plan, stop, seats, ending

    def places_left_out(self):
        """List the places whose callees do not matter."""
        return [place for place, seat in enumerate(self.seats) if seat is None]


class Way:
    """How far a Course is gone, and by which choices."""

    def __init__(self, course, state):
        self.course, self.plan = course, course.plan
        self.mark_of_course, self.at = state[0], state[1]
        # For each guess the WORDS at which its value stands, the visit in which it was made
        # (or -1), what is known of it, and the INS of this visit at which it stands.
        self.held, self.made, self.told_of, self.ins = state[2], state[3], state[4], state[5]
        # The rows of the visits that are done, and the moves of the one that is not.
        self.rows, self.moves = state[6], state[7]
        # For each place what is still to come of its callee's result: None before it is chosen.
        self.waiting, self.extra = state[8], state[9]

    def mark(self):
        """Give the state."""
        alive = self.plan.needed[self.at]
        held = tuple([words & alive for words in self.held])
        return (
            self.mark_of_course, self.at, held, self.made, self.told_of, self.ins,
            self.rows, self.moves, self.waiting, self.extra,
        )

    def twin(self):
        """Give a Way that is as far, by the same choices."""
        return Way(self.course, self.mark())

    def act(self):
        """Give the act that is to be done next."""
        return self.plan.acts[self.at]

    def visit(self):
        """Give the visit that is not done yet."""
        return len(self.rows)

    def set_held(self, guess, words):
        """Let the value of a guess stand at these WORDS, too."""
        if words:
            self.held = replaced(self.held, guess, self.held[guess] | words)

    def set_made(self, guess):
        """Let the value of a guess be made now."""
        self.made = replaced(self.made, guess, self.visit())
        self.told_of = replaced(self.told_of, guess, INSIDE)

    def enter(self, ins):
        """Begin a visit, with the values of the guesses at these INS."""
        self.ins = ins
        for guess, words in enumerate(ins):
            self.set_held(guess, words)
            if words and self.told_of[guess] == UNSEEN:
                self.told_of = replaced(self.told_of, guess, OUTSIDE)

    def hand(self, act):
        """Do a hand."""
        for guess, words in enumerate(self.held):
            if words & act[2]:
                self.set_held(guess, act[1])

    def leave(self, act):
        """End a visit."""
        outs = tuple([words & act[2] for words in self.held])
        self.rows = self.rows + ((self.ins, outs, self.moves),)
        self.moves = tuple(range(len(self.moves)))
        for guess, words in enumerate(outs):
            if words and self.told_of[guess] == INSIDE:
                self.told_of = replaced(self.told_of, guess, LEFT)


def replaced(row, at, part):
    """Give a tuple with part in the place of what stands at this number."""
    return row[:at] + (part,) + row[at + 1:]


def is_coming(waiting, guess):
    """Tell whether a callee that is chosen makes the value of a guess, in a later visit."""
    for result in waiting:
        if result and result[0][guess] >= 0:
            return True
    return False


def spread_ins(ports, visit, open_guesses, guesses):
    """List the ways in which values of these guesses can stand at INS of a visit."""
    found = [tuple([0 for _ in range(guesses)])]
    for port in ports.ins_by_visit[visit]:
        more = []
        for ins in found:
            more.append(ins)
            for guess in open_guesses:
                more.append(replaced(ins, guess, ins[guess] | 1 << port))
        found = more
    return found


def whole_courses(plans, seat):
    """List the Courses of a SEAT that go on to the end."""
    found = []
    for plan in plans.plans_of(seat):
        goes = list(zip(plan.callees, plan.goes))
        seats = [(callee, many) if many > 0 else None for callee, many in goes]
        found.append(Course(plan, len(plan.acts), seats, None))
    return found


class Guessing:
    """How results come of the results of callees (for Growth)."""

    def __init__(self, plans, lot, pattern):
        self.plans, self.pattern = plans, pattern
        self.lot = {pair: True for pair in lot}
        self.guesses = many_guesses(pattern)
        self.stored = {}

    def courses(self, seat):
        """List the Courses of the PROCEDURE of a SEAT."""
        if seat not in self.stored:
            self.stored[seat] = self.lay_courses(seat)
        return self.stored[seat]

    def lay_courses(self, seat):
        """Make these Courses."""
        return whole_courses(self.plans, seat)

    def first_extra(self):
        """Give what a state keeps besides, at its start."""
        return ()

    def way_of(self, state):
        """Give the Way of a state."""
        return Way(self.courses(state[0][0])[state[0][1]], state)

    def callees_of(self, key, rule):
        """Give the callees of this RULE."""
        return self.plans.source[key[0][0]][2][rule][0]

    def starts(self, key):
        """List the Courses as they begin, and the places to which they do not go."""
        seat, ins = key
        none = tuple([0 for _ in ins])
        found = []
        for number, course in enumerate(self.courses(seat)):
            made = tuple([-1 for _ in ins])
            waiting = tuple([() if where is None else None for where in course.seats])
            moves = tuple(range(len(self.pattern) + 1))
            state = ((seat, number), 1, none, made, none, none, (), moves, waiting, self.first_extra())
            way = Way(course, state)
            way.enter(ins)
            found.append((course.plan.number, way.mark(), course.places_left_out()))
        return found

    def run(self, state):
        """Go on to the next callees that are to be chosen, and to the ends."""
        ways, found = [self.way_of(state)], []
        while ways:
            way = ways.pop()
            while way is not None and way.at < way.course.stop:
                act = way.act()
                if act[0] == GO and way.waiting[act[1]] is None:
                    found.append((self.wanted(way, act), way.mark()))
                    way = None
                elif act[0] == ENTER or (act[0] == MAKE and act[3] in self.lot):
                    ways.extend(self.branches(way, act))
                    way = None
                elif self.does(way, act):
                    way.at += 1
                else:
                    way = None
            result = self.result_of(way) if way is not None else None
            if result is not None:
                found.append((None, result))
        return found

    def wanted(self, way, act):
        """Give the key of the callee that is to be chosen."""
        ports, offset = way.plan.ports[act[1]], way.plan.offsets[act[1]]
        ins = tuple([words >> offset & ports.in_masks[0] for words in way.held])
        return way.course.seats[act[1]], ins

    def branches(self, way, act):
        """List the Ways behind an act by which there are several."""
        found = []
        if act[0] == ENTER:
            guesses = [
                guess for guess in range(self.guesses)
                if way.told_of[guess] != INSIDE and not is_coming(way.waiting, guess)
            ]
            for ins in spread_ins(way.plan.own, act[1], guesses, self.guesses):
                more = way.twin()
                more.enter(ins)
                found.append(more)
        else:
            chosen = [None]
            chosen.extend([
                guess for guess in range(self.guesses)
                if self.may_make(way.told_of, guess) and not is_coming(way.waiting, guess)
            ])
            for guess in chosen:
                more = way.twin()
                self.make(more, act, guess)
                found.append(more)
        for more in found:
            more.at += 1
        return found

    def may_make(self, seen, guess):
        """Tell whether the value of a guess may be made, by what is known of all of them."""
        return seen[guess] == UNSEEN

    def make(self, way, act, chosen):
        """Do a make, of the value of the chosen guess or none."""
        used, counts = [words & act[2] > 0 for words in way.held], act[3] in self.lot
        way.moves = tuple([
            matched_behind(self.pattern, at, chosen, counts, used) for at in way.moves
        ])
        if chosen is not None:
            way.set_made(chosen)
            way.set_held(chosen, act[1])

    def does(self, way, act):
        """Do an act by which there is one Way alone; tell whether it can be so."""
        if act[0] == GO:
            return self.go(way, act)
        if act[0] == MAKE:
            self.make(way, act, None)
        elif act[0] == HAND:
            way.hand(act)
        else:
            way.leave(act)
        return True

    def go(self, way, act):
        """Do a go to a callee that is chosen; tell whether its result is fit for it."""
        place, turn = act[1], act[2]
        ports, offset = way.plan.ports[place], way.plan.offsets[place]
        result = way.waiting[place]
        ins, outs, moves = result[1][0]
        for guess in range(self.guesses):
            if way.held[guess] >> offset & ports.in_masks[turn] != ins[guess]:
                return False
        for guess in range(self.guesses):
            if result[0][guess] == turn:
                if not self.may_make(way.told_of, guess):
                    return False
                way.set_made(guess)
            way.set_held(guess, outs[guess] << offset)
        way.moves = tuple([moves[at] for at in way.moves])
        way.waiting = replaced(way.waiting, place, self.rest_of(way, act, result))
        return True

    def rest_of(self, way, act, result):
        """Give what is still to come of the result of a callee that was gone to."""
        if act[2] + 1 == way.plan.goes[act[1]]:
            return ()
        made = tuple([visit if visit > act[2] else -1 for visit in result[0]])
        return made, result[1][1:]

    def meet(self, state, result):
        """Choose a result for the callee that is waited for."""
        seen, waiting = state[4], state[8]
        for guess, made in enumerate(result[0]):
            if made >= 0 and (is_coming(waiting, guess) or not self.may_make(seen, guess)):
                return None
        seat, number = state[0]
        place = self.courses(seat)[number].plan.acts[state[1]][1]
        return place, state[:8] + (replaced(waiting, place, result),) + state[9:]

    def wants(self, key, result, results):
        """Tell whether a result is to be kept."""
        return True

    def worse(self, result, results):
        """List the results that are not to be kept beside this one."""
        return []

    def result_of(self, way):
        """Give the result at the end of the Course, None if there is none."""
        return way.made, way.rows
