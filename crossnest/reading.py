"""The lines of the text of a PROGRAM, read one behind the other."""

from crossnest.words import is_figures, names_read, word_read_of

MOST_CALLEES = 3
MOST_VISITS = 3


def step_read(words):
    """Give the STEP that the words of a line tell, None if they tell none."""
    if words[0] == "go":
        return ("go", int(words[1])) if len(words) == 2 and is_figures(words[1]) else None
    told = [word_read_of(word) for word in words[1:]]
    if len(told) == 0 or None in told:
        return None
    if words[0] == "make":
        return "make", told[0], tuple(told[1:])
    return ("hand", told[0], told[1]) if words[0] == "hand" and len(told) == 2 else None


class ProgramLines:
    """What the lines so far tell: lists of [ins, outs, rules], rules of [callees, rows]."""

    def __init__(self):
        self.procedures = []

    def last_rules(self):
        """Give the RULES of the last PROCEDURE."""
        return self.procedures[-1][2]

    def is_whole_rule(self):
        """Tell whether the last PROCEDURE has a RULE, the last one with as many rows as visits."""
        if len(self.procedures) == 0 or len(self.last_rules()) == 0:
            return False
        return len(self.last_rules()[-1][1]) == len(self.procedures[-1][0])

    def may_end(self):
        """Tell whether the text may end here."""
        return self.is_whole_rule()

    def takes(self, words):
        """Read a line; tell whether it can stand there."""
        if words == ["procedure"]:
            return self.take_procedure()
        if len(self.procedures) == 0:
            return False
        if words[0] == "visit":
            return self.take_visit(words[1:])
        if words[0] == "rule":
            return self.take_rule(words[1:])
        if words == ["row"]:
            return self.take_row()
        return self.take_step(words)

    def take_procedure(self):
        """Begin a PROCEDURE."""
        if len(self.procedures) > 0 and not self.is_whole_rule():
            return False
        self.procedures.append([[], [], []])
        return True

    def take_visit(self, words):
        """Read the sets of INS and OUTS of a visit."""
        ins, outs, rules = self.procedures[-1]
        told = [names_read(word) for word in words]
        if len(told) != 2 or None in told or len(rules) > 0 or len(ins) == MOST_VISITS:
            return False
        ins.append(told[0])
        outs.append(told[1])
        return True

    def take_rule(self, words):
        """Begin a RULE with these callees."""
        ins, _, rules = self.procedures[-1]
        if len(ins) == 0 or (len(rules) > 0 and not self.is_whole_rule()):
            return False
        if len(words) > MOST_CALLEES or not all([is_figures(word) for word in words]):
            return False
        rules.append([tuple([int(word) for word in words]), []])
        return True

    def take_row(self):
        """Begin a row."""
        if len(self.last_rules()) == 0 or self.is_whole_rule():
            return False
        self.last_rules()[-1][1].append([])
        return True

    def take_step(self, words):
        """Read a STEP."""
        step = step_read(words)
        if step is None or len(self.last_rules()) == 0 or len(self.last_rules()[-1][1]) == 0:
            return False
        self.last_rules()[-1][1][-1].append(step)
        return True

    def told(self):
        """Give what is told: a tuple of triples."""
        found = []
        for ins, outs, rules in self.procedures:
            whole = [(callees, tuple([tuple(row) for row in rows])) for callees, rows in rules]
            found.append((tuple(ins), tuple(outs), tuple(whole)))
        return tuple(found)
