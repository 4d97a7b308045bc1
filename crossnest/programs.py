"""What a PROGRAM is, what of it comes in TREES, and where its NAMES are set and read."""

from crossnest.checks import check_name, check_procedure, own_names, pair_of
from crossnest.drafts import first_fault, has_draft_shape
from crossnest.errors import CanNot
from crossnest.forms import frozen


def is_draft(thing):
    """Tell whether thing is a draft."""
    return has_draft_shape(thing)


def is_program(thing):
    """Tell whether thing is a PROGRAM."""
    return has_draft_shape(thing) and first_fault(thing) is None


def fault(draft):
    """Give the quadruple (procedure, rule, visit, step) of the first flaw, None without."""
    return first_fault(frozen(draft))


def fruitful_table(program):
    """Give a dict with the pairs (procedure, rule) of fruitful RULES as keys."""
    table, grown, changed = {}, {}, True
    while changed:
        changed = False
        for procedure in range(len(program)):
            for rule, (callees, _) in enumerate(program[procedure][2]):
                missing = [callee for callee in callees if callee not in grown]
                if missing or (procedure, rule) in table:
                    continue
                table[(procedure, rule)] = True
                grown[procedure] = True
                changed = True
    return table


def reached_table(program, table):
    """Give a dict with the PROCEDURES that are reached by fruitful RULES as keys."""
    found, waiting = {0: True}, [0]
    while waiting:
        procedure = waiting.pop()
        for rule, (callees, _) in enumerate(program[procedure][2]):
            if (procedure, rule) not in table:
                continue
            for callee in callees:
                if callee not in found:
                    found[callee] = True
                    waiting.append(callee)
    return found


def fruitful(program):
    """Give the set of the pairs (procedure, rule) of fruitful RULES."""
    return tuple(sorted(fruitful_table(frozen(program))))


def reached(program):
    """Give the set of the PROCEDURES that are reached."""
    program = frozen(program)
    return tuple(sorted(reached_table(program, fruitful_table(program))))


def is_clean(program):
    """Tell whether all RULES are fruitful and all PROCEDURES reached."""
    program = frozen(program)
    table = fruitful_table(program)
    if len(reached_table(program, table)) < len(program):
        return False
    return len(table) == sum([len(procedure[2]) for procedure in program])


def trimmed(program):
    """Give the clean PROGRAM of the reached PROCEDURES and their fruitful RULES."""
    program = frozen(program)
    table = fruitful_table(program)
    if not [rule for rule in range(len(program[0][2])) if (0, rule) in table]:
        raise CanNot()
    kept = sorted(reached_table(program, table))
    numbers = {procedure: at for at, procedure in enumerate(kept)}
    changed = []
    for procedure in kept:
        ins, outs, rules = program[procedure]
        left = [rule for number, rule in enumerate(rules) if (procedure, number) in table]
        moved = [(tuple([numbers[callee] for callee in callees]), rows) for callees, rows in left]
        changed.append((ins, outs, tuple(moved)))
    return tuple(changed)


def names_of(program, procedure):
    """Give the set of the INS, OUTS and locals of this PROCEDURE."""
    program = frozen(program)
    check_procedure(program, procedure)
    return tuple(own_names(program[procedure]))


def pairs_of(program):
    """Give the greatest LOT of the PROGRAM."""
    program = frozen(program)
    return tuple([(at, name) for at in range(len(program)) for name in own_names(program[at])])


def places_of_steps(program, told):
    """Give the set of the quadruples of those STEPS of which told has something to tell.

    told is a function of a PROCEDURE's number, a RULE of it and a STEP.
    """
    found = []
    for at, procedure in enumerate(program):
        for number, rule in enumerate(procedure[2]):
            for visit, row in enumerate(rule[1]):
                for place, step in enumerate(row):
                    if told(at, rule, step):
                        found.append((at, number, visit, place))
    return tuple(found)


def words_read(step):
    """List the WORDS that a STEP reads."""
    if step[0] == "make":
        return list(step[2])
    if step[0] == "hand":
        return [step[2]]
    return []


def makers(program, procedure, name):
    """Give the set of the quadruples that tell the makes whose values are of this pair."""
    program = frozen(program)
    check_name(program, procedure, name)

    def makes(at, rule, step):
        return step[0] == "make" and pair_of(at, rule, step[1]) == (procedure, name)

    return places_of_steps(program, makes)


def readers(program, procedure, name):
    """Give the set of the quadruples that tell the STEPS that read this pair."""
    program = frozen(program)
    check_name(program, procedure, name)

    def reads(at, rule, step):
        return (procedure, name) in [pair_of(at, rule, word) for word in words_read(step)]

    return places_of_steps(program, reads)


def calls(program):
    """Give the set of the pairs (procedure, callee)."""
    program = frozen(program)
    found = {}
    for at, procedure in enumerate(program):
        for callees, _ in procedure[2]:
            for callee in callees:
                found[(at, callee)] = True
    return tuple(sorted(found))


def called_from(program, procedure):
    """Give a dict with the PROCEDURES to which calls, one or more, lead from here as keys."""
    found, waiting = {}, [procedure]
    while waiting:
        rules = program[waiting.pop()][2]
        for callees, _ in rules:
            for callee in callees:
                if callee not in found:
                    found[callee] = True
                    waiting.append(callee)
    return found


def rings(program):
    """Give the set of the PROCEDURES from which calls lead back to themselves."""
    program = frozen(program)
    return tuple([at for at in range(len(program)) if at in called_from(program, at)])
