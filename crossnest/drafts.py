"""The shape of PROGRAMS, and the first STEP at which a RULE is not sound."""

from crossnest.forms import is_name, is_name_set, is_number_below, is_tuple_of


def all_names(sets):
    """List the NAMES of several sets, one set behind the other."""
    return [name for names in sets for name in names]


def has_ports_shape(thing):
    """Tell whether thing is a triple with sets of INS and OUTS as a PROCEDURE has them."""
    if not is_tuple_of(thing, 3):
        return False
    ins, outs = thing[0], thing[1]
    if not isinstance(ins, tuple) or not 1 <= len(ins) <= 3 or not is_tuple_of(outs, len(ins)):
        return False
    if not all([is_name_set(names) for names in ins + outs]):
        return False
    names = all_names(ins + outs)
    return len(set(names)) == len(names)


def has_word_shape(thing, ports, callees):
    """Tell whether thing is a WORD of a RULE; ports has the NAMES of each PROCEDURE as keys."""
    if is_name(thing):
        return True
    if not is_tuple_of(thing, 2) or not is_number_below(thing[0], len(callees)):
        return False
    return is_name(thing[1]) and thing[1] in ports[callees[thing[0]]]


def has_step_shape(thing, ports, callees):
    """Tell whether thing is a STEP of a RULE with these callees."""
    if is_tuple_of(thing, 2):
        return thing[0] == "go" and is_number_below(thing[1], len(callees))
    if not is_tuple_of(thing, 3) or not has_word_shape(thing[1], ports, callees):
        return False
    if thing[0] == "hand":
        return has_word_shape(thing[2], ports, callees)
    if thing[0] != "make" or not isinstance(thing[2], tuple):
        return False
    return all([has_word_shape(word, ports, callees) for word in thing[2]])


def has_rule_shape(thing, ports, visits):
    """Tell whether thing is shaped like a RULE of a PROCEDURE with so many visits."""
    if not is_tuple_of(thing, 2):
        return False
    callees, rows = thing
    if not isinstance(callees, tuple) or len(callees) > 3:
        return False
    if not all([is_number_below(callee, len(ports)) for callee in callees]):
        return False
    if not is_tuple_of(rows, visits) or not all([isinstance(row, tuple) for row in rows]):
        return False
    return all([has_step_shape(step, ports, callees) for row in rows for step in row])


def has_draft_shape(thing):
    """Tell whether thing is a draft."""
    if not isinstance(thing, tuple) or len(thing) == 0:
        return False
    if not all([has_ports_shape(procedure) for procedure in thing]):
        return False
    if len(all_names(thing[0][0])) > 0:
        return False
    ports = [{name: True for name in all_names(ins + outs)} for ins, outs, _ in thing]
    for ins, _, rules in thing:
        if not isinstance(rules, tuple) or len(rules) == 0:
            return False
        if not all([has_rule_shape(rule, ports, len(ins)) for rule in rules]):
            return False
    return True


def visits_by_name(sets):
    """Give a dict with the visit to which each of these NAMES belongs."""
    return {name: visit for visit, names in enumerate(sets) for name in names}


class Reading:
    """How far a RULE has been gone through: what is set, and how often each callee was gone to.

    tables has, for each PROCEDURE, the pair of visits_by_name for its INS and its OUTS.
    """

    def __init__(self, draft, tables, procedure, rule):
        self.own_outs = draft[procedure][1]
        self.in_visits, self.out_visits = tables[procedure]
        self.callee_ins = [draft[callee][0] for callee in rule[0]]
        self.callee_tables = [tables[callee] for callee in rule[0]]
        self.gone = [0 for _ in rule[0]]
        self.held = {}

    def can_set(self, word, visit):
        """Tell whether a make or a hand may set this WORD now."""
        if word in self.held:
            return False
        if isinstance(word, str):
            return word not in self.in_visits and self.out_visits.get(word, visit) == visit
        place, name = word
        return self.callee_tables[place][0].get(name) == self.gone[place]

    def can_read(self, word, visit):
        """Tell whether there is a value at this WORD now."""
        if word in self.held:
            return True
        if isinstance(word, str):
            return word in self.in_visits and self.in_visits[word] <= visit
        place, name = word
        outs = self.callee_tables[place][1]
        return name in outs and outs[name] < self.gone[place]

    def can_go(self, place):
        """Tell whether the callee has a further visit all INS of which are set."""
        ins, coming = self.callee_ins[place], self.gone[place]
        if coming == len(ins):
            return False
        return all([(place, name) in self.held for name in ins[coming]])

    def takes(self, step, visit):
        """Do this STEP; tell whether it may stand there."""
        if step[0] == "go":
            if not self.can_go(step[1]):
                return False
            self.gone[step[1]] += 1
            return True
        words = step[2] if step[0] == "make" else (step[2],)
        if not self.can_set(step[1], visit):
            return False
        if not all([self.can_read(word, visit) for word in words]):
            return False
        self.held[step[1]] = True
        return True

    def ends(self, visit):
        """Tell whether the row of this visit may end here."""
        if not all([name in self.held for name in self.own_outs[visit]]):
            return False
        return visit + 1 < len(self.own_outs) or all([many > 0 for many in self.gone])


def rule_fault(reading, rule):
    """Give the pair (visit, step) at which the RULE is not sound, None if it is."""
    for visit, row in enumerate(rule[1]):
        for number, step in enumerate(row):
            if not reading.takes(step, visit):
                return visit, number
        if not reading.ends(visit):
            return visit, len(row)
    return None


def first_fault(draft):
    """Give the fault of a draft, None if it has none."""
    tables = [(visits_by_name(ins), visits_by_name(outs)) for ins, outs, _ in draft]
    for procedure in range(len(draft)):
        for number, rule in enumerate(draft[procedure][2]):
            found = rule_fault(Reading(draft, tables, procedure, rule), rule)
            if found is not None:
                return procedure, number, found[0], found[1]
    return None
