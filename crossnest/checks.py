"""The checks that many functions make first, and the WORDS and goes of RULES."""

from crossnest.drafts import all_names
from crossnest.errors import NoName, NoProcedure, NoRule, TooMany

MOST_PORTS = 4


def check_procedure(program, procedure):
    """Raise NoProcedure if there is no PROCEDURE of this number."""
    if not 0 <= procedure < len(program):
        raise NoProcedure(procedure)


def check_rule(program, procedure, rule):
    """Raise NoProcedure, then NoRule, if there is no RULE of this number."""
    check_procedure(program, procedure)
    if not 0 <= rule < len(program[procedure][2]):
        raise NoRule(rule)


def check_name(program, procedure, name):
    """Raise NoProcedure, then NoName, if there is no such NAME."""
    check_procedure(program, procedure)
    if name not in own_names(program[procedure]):
        raise NoName(name)


def local_names(procedure, rule):
    """List the locals that a RULE of this PROCEDURE sets."""
    ports = {name: True for name in all_names(procedure[0] + procedure[1])}
    words = [step[1] for row in rule[1] for step in row if step[0] != "go"]
    return [word for word in words if isinstance(word, str) and word not in ports]


def own_names(procedure):
    """List the INS, OUTS and locals of a PROCEDURE, ascending."""
    found = {name: True for name in all_names(procedure[0] + procedure[1])}
    for rule in procedure[2]:
        for name in local_names(procedure, rule):
            found[name] = True
    return sorted(found)


def pair_of(procedure, rule, word):
    """Give the pair (procedure, name) that a WORD of this RULE is of."""
    if isinstance(word, str):
        return procedure, word
    return rule[0][word[0]], word[1]


def goes_in(rule, many):
    """List, for each place, how many goes to it stand in the first many rows."""
    goes = [0 for _ in rule[0]]
    for row in rule[1][:many]:
        for step in row:
            if step[0] == "go":
                goes[step[1]] += 1
    return goes


def seats_of(program):
    """List the SEATS of a PROGRAM, ascending."""
    start = (0, len(program[0][0]))
    found, waiting = {start: True}, [start]
    while waiting:
        procedure, many = waiting.pop()
        for rule in program[procedure][2]:
            for place, goes in enumerate(goes_in(rule, many)):
                seat = (rule[0][place], goes)
                if goes > 0 and seat not in found:
                    found[seat] = True
                    waiting.append(seat)
    return sorted(found)


def check_ports(program):
    """Raise TooMany if some PROCEDURE has more than 4 INS, or 4 OUTS, in all its visits."""
    for ins, outs, _ in program:
        if len(all_names(ins)) > MOST_PORTS or len(all_names(outs)) > MOST_PORTS:
            raise TooMany()
