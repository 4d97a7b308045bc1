"""STEPS of a RULE: which come ahead of others, and RULES with other WORDS."""

from crossnest.drafts import visits_by_name
from crossnest.programs import words_read


def with_rules(program, procedure, rules):
    """Give the PROGRAM with these RULES of a PROCEDURE."""
    ins, outs, _ = program[procedure]
    return program[:procedure] + ((ins, outs, rules),) + program[procedure + 1:]


class Row:
    """A row of a RULE: the numbers of its STEPS that set WORDS, and of those that begin visits."""

    def __init__(self, program, rule, visit):
        self.callees = [program[callee] for callee in rule[0]]
        self.steps = rule[1][visit]
        self.setters, self.begins, self.turns = {}, {}, {}
        gone = [0 for _ in self.callees]
        for at, row in enumerate(rule[1][:visit + 1]):
            for number, step in enumerate(row):
                if step[0] == "go":
                    if at == visit:
                        self.begins[(step[1], gone[step[1]])] = number
                        self.turns[number] = gone[step[1]]
                    gone[step[1]] += 1
                elif at == visit:
                    self.setters[step[1]] = number

    def begun_by(self, place, visit):
        """List the STEP of this row that begins a visit of a callee, if one does."""
        return [self.begins[(place, visit)]] if (place, visit) in self.begins else []

    def ahead_of_go(self, number):
        """List the STEPS that come ahead of a go: those that set INS of the visit, and the go to
        this place ahead."""
        place, turn = self.steps[number][1], self.turns[number]
        words = [(place, name) for name in self.callees[place][0][turn]]
        found = [self.setters[word] for word in words if word in self.setters]
        return found + self.begun_by(place, turn - 1)

    def ahead_of(self, number):
        """List the STEPS that come ahead of a STEP in each ORDER."""
        step = self.steps[number]
        if step[0] == "go":
            return self.ahead_of_go(number)
        found = []
        for word in words_read(step):
            if word in self.setters:
                found.append(self.setters[word])
            elif not isinstance(word, str):
                visits = visits_by_name(self.callees[word[0]][1])
                # An IN was set in an earlier row.
                if word[1] in visits:
                    found.extend(self.begun_by(word[0], visits[word[1]]))
        if not isinstance(step[1], str):
            place, name = step[1]
            found.extend(self.begun_by(place, visits_by_name(self.callees[place][0])[name] - 1))
        return found


def needs_of(program, rule, visit):
    """List, for each STEP of the row of this visit, those of it that come ahead of it."""
    row = Row(program, rule, visit)
    return [row.ahead_of(number) for number in range(len(row.steps))]


def reworded_step(step, told):
    """Give a STEP with told(word) in the place of each WORD."""
    if step[0] == "go":
        return step
    if step[0] == "make":
        return "make", told(step[1]), tuple([told(word) for word in step[2]])
    return "hand", told(step[1]), told(step[2])


def reworded(rule, told):
    """Give a RULE with told(word) in the place of each WORD."""
    rows = [tuple([reworded_step(step, told) for step in row]) for row in rule[1]]
    return rule[0], tuple(rows)
