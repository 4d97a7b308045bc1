"""RULES laid out as rows of simple acts over bits.

The *ports* of a PROCEDURE are its INS and then its OUTS, visit by visit: port 0 is bit 0,
and so on. In a RULE the own ports stand first, then the locals, then a block with the ports
of each callee. So a set of WORDS is a number, and a callee's ports lie in it as they are.
"""

from crossnest.checks import goes_in, local_names, pair_of
from crossnest.drafts import all_names

ENTER = 0
MAKE = 1
HAND = 2
GO = 3
LEAVE = 4


class Ports:
    """The INS and OUTS of a PROCEDURE by numbers."""

    def __init__(self, procedure):
        ins, outs = procedure[0], procedure[1]
        self.names = all_names(ins) + all_names(outs)
        self.many_ins = len(all_names(ins))
        # The bits that tell a set of ports, and one more.
        self.width = 1 + len(self.names)
        self.bits = {name: 1 << at for at, name in enumerate(self.names)}
        self.in_masks = [self.mask_of(names) for names in ins]
        self.out_masks = [self.mask_of(names) for names in outs]
        self.ins_by_visit = [
            [at for at in range(self.many_ins) if mask >> at & 1] for mask in self.in_masks
        ]

    def mask_of(self, names):
        """Give the number that tells these NAMES."""
        return sum([self.bits[name] for name in names])

    def names_in(self, mask):
        """Give the set of the NAMES that a number tells."""
        return tuple(sorted([name for name in self.names if mask & self.bits[name]]))


class Plan:
    """A RULE of a PROCEDURE that is gone to many times, as acts one behind another.

    An act is (ENTER, visit, INS), (MAKE, word, sources, pair), (HAND, word, other, None),
    (GO, place, visit of the callee) or (LEAVE, visit, OUTS), with bits for WORDS.
    """

    def __init__(self, program, ports, seat, number):
        procedure, many = seat
        self.seat, self.number = seat, number
        self.own = ports[procedure]
        self.rule = program[procedure][2][number]
        self.callees = self.rule[0]
        self.ports = [ports[callee] for callee in self.callees]
        self.goes = goes_in(self.rule, many)
        self.bits, self.offsets = {}, []
        self.lay_words(sorted(set(local_names(program[procedure], self.rule))))
        # The acts, and how often each place was gone to ahead of each of them.
        self.acts, self.counts = [], [tuple([0 for _ in self.callees])]
        # Where the acts of a visit begin, and those behind a go by its place and its visit.
        self.begins, self.behind = [], {}
        for visit in range(many):
            self.lay_row(visit)
        self.needed = self.lay_alive()

    def lay_words(self, names):
        """Give each WORD its bit."""
        self.bits = {name: bit for name, bit in self.own.bits.items()}
        at = len(self.bits)
        for name in names:
            self.bits[name] = 1 << at
            at += 1
        for place, ports in enumerate(self.ports):
            self.offsets.append(at)
            for number, name in enumerate(ports.names):
                self.bits[(place, name)] = 1 << at + number
            at += len(ports.names)

    def mask_of(self, words):
        """Give the number that tells these WORDS."""
        mask = 0
        for word in words:
            mask |= self.bits[word]
        return mask

    def lay_act(self, act):
        """Put one more act behind the others."""
        gone = list(self.counts[-1])
        if act[0] == GO:
            gone[act[1]] += 1
        self.acts.append(act)
        self.counts.append(tuple(gone))
        if act[0] == ENTER:
            self.begins.append(len(self.acts))
        elif act[0] == GO:
            self.behind[act[1:]] = len(self.acts)

    def lay_row(self, visit):
        """Put the acts of the row of this visit behind the others."""
        self.lay_act((ENTER, visit, self.own.in_masks[visit]))
        for step in self.rule[1][visit]:
            if step[0] == "go":
                self.lay_act((GO, step[1], self.counts[-1][step[1]]))
            elif step[0] == "make":
                word = step[1]
                self.lay_act((MAKE, self.bits[word], self.mask_of(step[2]), self.of(word)))
            else:
                self.lay_act((HAND, self.bits[step[1]], self.bits[step[2]], None))
        self.lay_act((LEAVE, visit, self.own.out_masks[visit]))

    def of(self, word):
        """Give the pair (procedure, name) that a WORD is of."""
        return pair_of(self.seat[0], self.rule, word)

    def read_by(self, act):
        """Give the WORDS that an act reads."""
        if act[0] == GO:
            return self.ports[act[1]].in_masks[act[2]] << self.offsets[act[1]]
        if act[0] == ENTER:
            return 0
        return act[2]

    def lay_alive(self):
        """List, for each act and for the end, the WORDS that are read from there on."""
        found = [0]
        for act in reversed(self.acts):
            found.append(found[-1] | self.read_by(act))
        return found[::-1]


class Plans:
    """The Plans of a PROGRAM, made as they are asked for."""

    def __init__(self, program):
        self.source = program
        self.ports = [Ports(procedure) for procedure in program]
        self.stored = {}

    def plans_of(self, seat):
        """List the Plans of the RULES of a PROCEDURE that is gone to so often."""
        if seat not in self.stored:
            self.stored[seat] = self.lay_plans(seat)
        return self.stored[seat]

    def lay_plans(self, seat):
        """Make these Plans."""
        return [
            Plan(self.source, self.ports, seat, number)
            for number in range(len(self.source[seat[0]][2]))
        ]
