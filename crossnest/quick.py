"""Values that are never handed on: what is made and used in a RULE, or in that of a callee."""

from crossnest.checks import pair_of, seats_of
from crossnest.leasts import joined, least_of_rule, least_table, lesser


def is_never_handed(program, lot):
    """Tell whether no hand has a WORD of a pair of the LOT as its other."""
    for number, procedure in enumerate(program):
        for rule in procedure[2]:
            hands = [step for row in rule[1] for step in row if step[0] == "hand"]
            if [step for step in hands if pair_of(number, rule, step[2]) in lot]:
                return False
    return True


def own_deeds(rule, many):
    """List the makes and the uses in the first many rows, as pairs (WORD, visit)."""
    makes, uses = [], []
    for visit, row in enumerate(rule[1][:many]):
        for step in row:
            if step[0] == "make":
                makes.append((step[1], visit))
                uses.extend([(word, visit) for word in step[2]])
    return makes, uses


def visits_of_goes(rule, many):
    """List, for each place, the visits in which the goes to it stand, in the first many rows."""
    found = [[] for _ in rule[0]]
    for visit, row in enumerate(rule[1][:many]):
        for step in row:
            if step[0] == "go":
                found[step[1]].append(visit)
    return found


class Profiles:
    """The PROFILES of all SEATS of a PROGRAM for a quick LOT, each with its least TREE."""

    def __init__(self, program, lot):
        self.source, self.lot = program, lot
        self.smallest = least_table(program)
        self.table = {seat: {} for seat in seats_of(program)}
        changed = True
        while changed:
            changed = False
            for seat in sorted(self.table):
                for rule in range(len(program[seat[0]][2])):
                    if self.improve(seat, rule):
                        changed = True

    def improve(self, seat, number):
        """Take in what comes of a RULE at a SEAT; tell whether there was anything new."""
        rule, changed = self.source[seat[0]][2][number], False
        found = self.alone(seat, number, rule)
        for place, visits in enumerate(visits_of_goes(rule, seat[1])):
            if visits:
                found.extend(self.with_root(seat, number, rule, place, visits))
                found.extend(self.with_callee(seat, number, rule, place, visits))
        for profile, told in found:
            best = lesser(self.table[seat].get(profile), told)
            if self.table[seat].get(profile) != best:
                self.table[seat][profile] = best
                changed = True
        return changed

    def tree_with(self, rule, number, place, part):
        """Give the least (size, TREE) of a RULE with this (size, TREE) at a place."""
        parts = [self.smallest[callee] for callee in rule[0]]
        if place is not None:
            parts[place] = part
        return joined(number, parts)

    def alone(self, seat, number, rule):
        """List the PROFILES of own makes and own uses."""
        found, told = [], self.tree_with(rule, number, None, None)
        makes, uses = own_deeds(rule, seat[1])
        for word, made in makes:
            pair = pair_of(seat[0], rule, word)
            if pair in self.lot:
                found.append(((pair, made), told))
                found.extend([((pair, made, used), told) for other, used in uses if other == word])
        return found

    def with_root(self, seat, number, rule, place, visits):
        """List the PROFILES of values made here and used by a callee's RULE, or the other way."""
        found, callee = [], rule[0][place]
        makes, uses = own_deeds(rule, seat[1])
        for at, other in enumerate(self.source[callee][2]):
            part = least_of_rule(self.source, callee, at, self.smallest)
            told = self.tree_with(rule, number, place, part)
            inner_makes, inner_uses = own_deeds(other, len(visits))
            for word, made in makes:
                for name, used in inner_uses:
                    if word == (place, name) and (callee, name) in self.lot:
                        found.append((((callee, name), made, visits[used]), told))
            for name, made in inner_makes:
                for word, used in uses:
                    if word == (place, name) and (callee, name) in self.lot:
                        found.append((((callee, name), visits[made], used), told))
        return found

    def with_callee(self, seat, number, rule, place, visits):
        """List the PROFILES that come of those of a callee."""
        found = []
        for profile, part in self.table[(rule[0][place], len(visits))].items():
            moved = (profile[0],) + tuple([visits[visit] for visit in profile[1:]])
            found.append((moved, self.tree_with(rule, number, place, part)))
        return found
