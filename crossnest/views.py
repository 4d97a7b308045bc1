"""RULES with the RULE of one callee in the places of its goes, and what is made and used there."""

from crossnest.checks import pair_of
from crossnest.quick import own_deeds


class View:
    """The rows of a RULE, one STEP behind another, maybe with those of one callee in it.

    Node 0 is that of the RULE, node 1 that of this callee. Other callees are told by pairs
    (node, place): what is done within a go to them is done at the place of the go. A slot is
    (node, NAME), or (node, place, NAME) for a WORD of another callee.
    """

    def __init__(self, program, seat, rule, place, inner):
        self.source, self.place, self.length = program, place, 0
        # Triples (slot, pair, position), pairs (slot, position), and positions of goes.
        self.makes, self.uses, self.goes = [], [], {}
        self.callees = {}
        procedure, many = seat
        gone = 0
        for visit in range(many):
            for step in rule[1][visit]:
                if place is not None and step == ("go", place):
                    for more in inner[1][gone]:
                        self.add_step(1, rule[0][place], inner, more)
                    gone += 1
                else:
                    self.add_step(0, procedure, rule, step)
            if seat == (0, len(program[0][0])):
                # Some node of this SEAT is the root, which is asked for its OUTS.
                self.uses.extend([((0, name), self.length) for name in program[0][1][visit]])
                self.length += 1

    def slot_of(self, node, word):
        """Give the slot of a WORD."""
        if isinstance(word, str):
            return node, word
        if node == 0 and word[0] == self.place:
            return 1, word[1]
        return node, word[0], word[1]

    def add_step(self, node, procedure, rule, step):
        """Put a STEP of this RULE behind the others."""
        if step[0] == "go":
            self.goes.setdefault((node, step[1]), []).append(self.length)
            self.callees[(node, step[1])] = rule[0][step[1]]
        elif step[0] == "make":
            pair = pair_of(procedure, rule, step[1])
            self.makes.append((self.slot_of(node, step[1]), pair, self.length))
            self.uses.extend([(self.slot_of(node, word), self.length) for word in step[2]])
        self.length += 1

    def lives(self, table, lot):
        """List what values of a LOT can be made and used: (pair, make, use, callee).

        make and use are positions, use None where none is told; callee is the node within whose
        goes one of both lies, None if there is none. table has the PROFILES of each SEAT.
        """
        found = []
        for slot, pair, made in self.makes:
            if pair in lot:
                found.append((pair, made, None, None))
                found.extend([(pair, made, at, None) for other, at in self.uses if other == slot])
                found.extend(self.used_within(slot, pair, made))
        for callee in sorted(self.goes):
            found.extend(self.made_within(callee, lot))
            goes = self.goes[callee]
            for profile in table[(self.callees[callee], len(goes))]:
                used = goes[profile[2]] if len(profile) == 3 else None
                found.append((profile[0], goes[profile[1]], used, callee))
        return found

    def used_within(self, slot, pair, made):
        """List the uses of a value by a RULE of the callee at an IN of which it is made."""
        found, callee = [], slot[:2]
        if len(slot) == 3 and callee in self.goes:
            goes = self.goes[callee]
            for rule in self.source[self.callees[callee]][2]:
                for word, visit in own_deeds(rule, len(goes))[1]:
                    if word == slot[2]:
                        found.append((pair, made, goes[visit], callee))
        return found

    def made_within(self, callee, lot):
        """List the values that a RULE of this callee makes at an OUT and that are used here."""
        found, goes, number = [], self.goes[callee], self.callees[callee]
        for rule in self.source[number][2]:
            for word, visit in own_deeds(rule, len(goes))[0]:
                if isinstance(word, str) and (number, word) in lot:
                    found.extend([
                        ((number, word), goes[visit], at, callee)
                        for slot, at in self.uses if slot == callee + (word,)
                    ])
        return found


def views_of(program, seat):
    """List the Views of a SEAT: of each RULE alone, and with each RULE of each callee in it."""
    found = []
    for rule in program[seat[0]][2]:
        found.append(View(program, seat, rule, None, None))
        for place, callee in enumerate(rule[0]):
            found.extend([View(program, seat, rule, place, inner) for inner in program[callee][2]])
    return found


def spoils(home, one, other):
    """Tell whether two lives, of one value and of another one made behind it, spoil a home."""
    made, used = one[1], one[2]
    if used is None or not made < other[1]:
        return False
    if home == "cell":
        return other[1] < used
    if other[2] is None:
        return False
    if home == "stack":
        return other[1] < used < other[2]
    return other[2] < used


def pairs_spoiling(view, table, lot, home):
    """List the pairs of pairs of a LOT values of which spoil a home in a View."""
    lives = list({life: True for life in view.lives(table, lot)})
    # Two lives with one callee may ask for TREES of it that do not go together: where they
    # spoil the home, the View that has the RULE of this callee tells it.
    return [
        (one[0], other[0]) for one in lives for other in lives
        if spoils(home, one, other) and (one[3] is None or one[3] != other[3])
    ]
