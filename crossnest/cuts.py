"""RUNS cut at a MOMENT: two values, made one behind the other, and which is alive there.

Guess 0 is the value made first, guess 1 the other one. A SEAT is told here by four numbers
(procedure, many, done, cut): a TREE of the PROCEDURE is gone to many times, the MOMENT has done
of these visits behind it and, if cut is 1, lies within the next one, right behind an EVENT in it.
So a node that is not known at the MOMENT has no result: any TREE may stand there.

A *family* is the list of the greatest members (see streams) that TREES with the same known nodes
have for a value, told by a number. A result is (made, rows, past, first, ends): past has the
families for guess 0 behind each visit but the last one, up to where guess 1 is made; first is
that at the MOMENT right behind the make of guess 1, -1 if it is not made here; ends has for both
guesses that at the MOMENT, () if all visits are done by then. Only "region" asks past and first.
"""

from crossnest.guesses import Course, Guessing, UNSEEN, is_coming
from crossnest.plans import GO, HAND, LEAVE, MAKE
from crossnest.streams import compose_all, greatest

NO_FAMILY = -1


def course_to(plan, stop, place):
    """Give the Course up to an act; place is that of the callee within which the MOMENT lies."""
    seats = []
    for at, callee in enumerate(plan.callees):
        gone = plan.counts[stop][at]
        if gone == 0:
            seats.append(None)
        elif at == place:
            seats.append((callee, plan.goes[at], gone - 1, 1))
        else:
            seats.append((callee, plan.goes[at], gone, 0))
    return Course(plan, stop, seats, place)


def courses_of(plan, done, cut):
    """List the Courses of a Plan up to the MOMENTS that these numbers tell."""
    found, visit = [], 0
    for at, act in enumerate(plan.acts):
        if cut == 0 and act[:2] == (LEAVE, done - 1):
            found.append(course_to(plan, at + 1, None))
        if cut == 1 and visit == done:
            if act[0] == MAKE or act[0] == HAND:
                found.append(course_to(plan, at + 1, None))
            elif act[0] == GO:
                found.append(course_to(plan, at + 1, act[1]))
        if act[0] == LEAVE:
            visit += 1
    return found


class Cutting(Guessing):
    """How results come of the results of callees, up to a MOMENT (for Growth)."""

    def __init__(self, plans, lot, home, best):
        super().__init__(plans, lot, ())
        self.guesses = 2
        self.home = home
        self.dead = 0 if home == "region" else 1
        self.families, self.numbers, self.composed = [], {}, {}
        # The families of the callees that are not known, and that of those that are done.
        self.unknown = {seat: self.number_of(best[seat]) for seat in best}
        self.finished = self.number_of([()])

    def number_of(self, members):
        """Give the number of a family."""
        family = tuple(members)
        if family not in self.numbers:
            self.numbers[family] = len(self.families)
            self.families.append(family)
        return self.numbers[family]

    def lives(self, number):
        """Tell whether the value can be used, or be at an OUT, by a family."""
        return any([member[0] > 0 for member in self.families[number]])

    def is_used(self, number):
        """Tell whether the value can be used within, by a family."""
        return any([member[0] & 1 == 1 for member in self.families[number]])

    def lay_courses(self, seat):
        """Make the Courses of a SEAT."""
        procedure, many, done, cut = seat
        found = []
        for plan in self.plans.plans_of((procedure, many)):
            found.extend(courses_of(plan, done, cut))
        return found

    def first_extra(self):
        """Give past and first at the start."""
        return (), NO_FAMILY

    def may_make(self, seen, guess):
        """Tell whether the value of a guess may be made: guess 0 ahead of guess 1."""
        return seen[guess] == UNSEEN and seen[1] == UNSEEN

    def family(self, plan, at, words, parts):
        """Give the family from an act on of a value at these WORDS; parts are the callees'."""
        words = words & plan.needed[at]
        mark = (plan.seat, plan.number, at, words, tuple(parts))
        if mark not in self.composed:
            families = [self.families[part] for part in parts]
            members = greatest(compose_all(plan, at, words, families), plan.own.width)
            self.composed[mark] = self.number_of(members)
        return self.composed[mark]

    def part_of(self, plan, at, place):
        """Give the family of a callee ahead of an act; None if it is known and not done."""
        gone = plan.counts[at][place]
        if gone == plan.goes[place]:
            return self.finished
        if gone == 0:
            return self.unknown[(plan.callees[place], plan.goes[place])]
        return None

    def past_parts(self, way, at, inner, within):
        """List the families of the callees ahead of an act, for guess 0.

        If the act is a go in which guess 1 is made, inner is its place and within the family
        of this callee right behind that.
        """
        parts = [self.part_of(way.plan, at, place) for place in range(len(way.waiting))]
        for place, part in enumerate(list(parts)):
            if place == inner:
                parts[place] = within
            elif part is None:
                parts[place] = way.waiting[place][2][way.plan.counts[at][place] - 1]
        return parts

    def note_first(self, way, words, inner, within):
        """Keep the family for guess 0 right behind the make of guess 1, as in past_parts."""
        if self.home == "region":
            parts = self.past_parts(way, way.at, inner, within)
            way.extra = ((), self.family(way.plan, way.at + 1, words, parts))

    def make(self, way, act, chosen):
        """Do a make."""
        super().make(way, act, chosen)
        if chosen == 1:
            self.note_first(way, way.held[0], None, None)

    def does(self, way, act):
        """Do an act by which there is one Way alone; tell whether it can be so."""
        done = super().does(way, act)
        past, first = way.extra
        is_row = act[0] == LEAVE and way.visit() < way.plan.seat[1]
        # Made within, guess 1 makes past needless: only first is asked for then.
        unmade = way.told_of[1] == UNSEEN and not is_coming(way.waiting, 1)
        if is_row and self.home == "region" and unmade:
            parts = self.past_parts(way, way.at, None, None)
            way.extra = (past + (self.family(way.plan, way.at + 1, way.held[0], parts),), first)
        return done

    def go(self, way, act):
        """Do a go to a callee that is chosen; tell whether its result is fit for it."""
        place, turn = act[1], act[2]
        result, held, waiting = way.waiting[place], way.held[0], way.waiting
        if not super().go(way, act):
            return False
        if result[0][1] == turn:
            # What was known of the callees ahead of the go is asked for once more.
            after = way.waiting
            way.waiting = waiting
            self.note_first(way, held, place, result[3])
            way.waiting = after
        return True

    def rest_of(self, way, act, result):
        """Give what is still to come of the result of a callee that was gone to."""
        is_cut = way.at + 1 == way.course.stop
        if act[2] + 1 == way.plan.goes[act[1]] and not is_cut:
            return ()
        made = tuple([visit if visit > act[2] else -1 for visit in result[0]])
        past = result[2] if way.told_of[1] == UNSEEN else ()
        first = result[3] if made[1] >= 0 else NO_FAMILY
        return made, result[1][1:], past, first, result[4]

    def end_family(self, way, guess):
        """Give the family of a guess at the MOMENT."""
        plan, stop = way.plan, way.course.stop
        parts = [self.part_of(plan, stop, place) for place in range(len(way.waiting))]
        for place, part in enumerate(list(parts)):
            if part is None or place == way.course.ending:
                parts[place] = way.waiting[place][4][guess]
        return self.family(plan, stop, way.held[guess], parts)

    def result_of(self, way):
        """Give the result at the MOMENT, None if the value that is to be dead can be used."""
        _, many, done, cut = way.mark_of_course[0]
        past, first = way.extra
        if cut == 0 and done == many:
            return way.made, way.rows, past, first, ()
        ends = (self.end_family(way, 0), self.end_family(way, 1))
        if self.is_used(ends[self.dead]):
            return None
        rows = way.rows
        if cut == 1:
            rows = rows + ((way.ins, (0, 0), way.moves),)
        return way.made, rows, past, first, ends
