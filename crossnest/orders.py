"""Other orders of the STEPS of RULES, and visits that are joined."""

from crossnest.checks import check_procedure, check_rule
from crossnest.drafts import first_fault
from crossnest.errors import CanNot, TooMany, Unfit
from crossnest.forms import frozen, is_number, is_tuple_of
from crossnest.lots import check_asked, does_fit, fewest_lots
from crossnest.steps import needs_of, with_rules

MOST_OF_RULE = 720
MOST_OF_PROGRAM = 200


def goes_of(row):
    """Give a dict with, for each place, the numbers of the goes to it in a row."""
    found = {}
    for number, step in enumerate(row):
        if step[0] == "go":
            found.setdefault(step[1], []).append(number)
    return found


def is_row_order(row, thing):
    """Tell whether thing has the numbers of the STEPS of a row, goes to one place as they were."""
    if not is_tuple_of(thing, len(row)) or not all([is_number(number) for number in thing]):
        return False
    if sorted(thing) != list(range(len(row))):
        return False
    for numbers in goes_of(row).values():
        if [number for number in thing if number in numbers] != numbers:
            return False
    return True


def ordered_rule(rule, order):
    """Give a RULE with its STEPS in an order of each row."""
    rows = [
        tuple([row[number] for number in numbers]) for row, numbers in zip(rule[1], order)
    ]
    return rule[0], tuple(rows)


def with_rule_at(program, procedure, number, rule):
    """Give the PROGRAM with this RULE in the place of that of this number."""
    rules = program[procedure][2]
    return with_rules(program, procedure, rules[:number] + (rule,) + rules[number + 1:])


def has_order(program, procedure, rule, thing):
    """Tell whether thing is an ORDER of this RULE."""
    told = program[procedure][2][rule]
    if not is_tuple_of(thing, len(told[1])):
        return False
    if not all([is_row_order(row, part) for row, part in zip(told[1], thing)]):
        return False
    changed = with_rule_at(program, procedure, rule, ordered_rule(told, thing))
    return first_fault(changed) is None


def is_order(program, procedure, rule, thing):
    """Tell whether thing is an ORDER of this RULE."""
    program = frozen(program)
    check_rule(program, procedure, rule)
    return has_order(program, procedure, rule, thing)


def row_orders(needs):
    """List the orders of a row, ascending, up to one more than are let; needs has, for each STEP,
    the numbers of those that come ahead of it."""
    found, waiting = [], [()]
    while waiting and len(found) <= MOST_OF_RULE:
        done = waiting.pop()
        if len(done) == len(needs):
            found.append(done)
            continue
        for number in reversed(range(len(needs))):
            if number not in done and all([other in done for other in needs[number]]):
                waiting.append(done + (number,))
    return found


def rule_orders(program, procedure, rule):
    """List all ORDERS of a RULE, ascending; raise TooMany if there are more than are let."""
    told, found = program[procedure][2][rule], [()]
    for visit in range(len(told[1])):
        rows = row_orders(needs_of(program, told, visit))
        if len(found) * len(rows) > MOST_OF_RULE:
            raise TooMany()
        found = [order + (row,) for order in found for row in rows]
    return found


def orders_of(program, procedure, rule):
    """List all ORDERS of this RULE, ascending."""
    program = frozen(program)
    check_rule(program, procedure, rule)
    return rule_orders(program, procedure, rule)


def in_order(program, procedure, rule, order):
    """Give the PROGRAM with this RULE in this ORDER."""
    program, order = frozen(program), frozen(order)
    check_rule(program, procedure, rule)
    if not has_order(program, procedure, rule, order):
        raise Unfit()
    told = ordered_rule(program[procedure][2][rule], order)
    return with_rule_at(program, procedure, rule, told)


def has_orders(program, thing):
    """Tell whether thing are ORDERS of the PROGRAM."""
    if not is_tuple_of(thing, len(program)):
        return False
    for procedure, told in enumerate(thing):
        if not is_tuple_of(told, len(program[procedure][2])):
            return False
        if not all([has_order(program, procedure, rule, order) for rule, order in enumerate(told)]):
            return False
    return True


def ordered(program, orders):
    """Give the PROGRAM with all RULES in these ORDERS."""
    found = []
    for (ins, outs, rules), told in zip(program, orders):
        changed = [ordered_rule(rule, order) for rule, order in zip(rules, told)]
        found.append((ins, outs, tuple(changed)))
    return tuple(found)


def in_orders(program, orders):
    """Give the PROGRAM with all RULES in these ORDERS."""
    program, orders = frozen(program), frozen(orders)
    if not has_orders(program, orders):
        raise Unfit()
    return ordered(program, orders)


def exchanged(program, procedure, rule, visit, step):
    """Give the PROGRAM with a STEP and the next one exchanged."""
    program = frozen(program)
    check_rule(program, procedure, rule)
    told = program[procedure][2][rule]
    if not 0 <= visit < len(told[1]) or not 0 <= step < len(told[1][visit]) - 1:
        raise Unfit()
    order = [tuple(range(len(row))) for row in told[1]]
    numbers = order[visit]
    order[visit] = numbers[:step] + (step + 1, step) + numbers[step + 2:]
    return in_order(program, procedure, rule, tuple(order))


def all_orders(program):
    """List all ORDERS of the PROGRAM, ascending; raise TooMany if there are more than are let."""
    known = [
        [rule_orders(program, procedure, rule) for rule in range(len(rules))]
        for procedure, (_, _, rules) in enumerate(program)
    ]
    found = [()]
    for told in known:
        rows = [()]
        for orders in told:
            if len(found) * len(rows) * len(orders) > MOST_OF_PROGRAM:
                raise TooMany()
            rows = [row + (order,) for row in rows for order in orders]
        found = [ahead + (row,) for ahead in found for row in rows]
    return found


def best_orders(program, home, lot):
    """Give the least ORDERS in which the LOT fits the home, None if there are none."""
    program, lot = frozen(program), frozen(lot)
    check_asked(program, home, lot)
    for orders in all_orders(program):
        if does_fit(ordered(program, orders), home, lot):
            return orders
    return None


def fewest_by_orders(program, home, lot):
    """Give the least number of LOTS of a PARTING in any ORDERS, and the least ORDERS with it, as
    a pair; None if there is no PARTING."""
    program, lot = frozen(program), frozen(lot)
    check_asked(program, home, lot)
    best = None
    for orders in all_orders(program):
        found = fewest_lots(ordered(program, orders), home, lot)
        if found is not None and (best is None or len(found) < best[0]):
            best = (len(found), orders)
        # No PARTING has fewer LOTS.
        if best is not None and best[0] <= 1:
            return best
    return best


def joined_sets(sets, visit):
    """Give sets of NAMES with those of a visit and of the next one as one."""
    both = tuple(sorted(sets[visit] + sets[visit + 1]))
    return sets[:visit] + (both,) + sets[visit + 2:]


def goes_left_out(rule, place, visit):
    """Give the set of the pairs (row, number) of the go to a place that begins this visit, if
    there is one; raise CanNot if that to the next one is not in the same row."""
    found = []
    for at, row in enumerate(rule[1]):
        for number, step in enumerate(row):
            if step == ("go", place):
                found.append((at, number))
    if len(found) <= visit:
        return ()
    if len(found) == visit + 1 or found[visit][0] != found[visit + 1][0]:
        raise CanNot()
    return (found[visit],)


def joined_rule(rule, procedure, visit):
    """Give a RULE that goes to this PROCEDURE but once for both visits."""
    left_out = [
        spot for place, callee in enumerate(rule[0]) if callee == procedure
        for spot in goes_left_out(rule, place, visit)
    ]
    rows = [
        tuple([step for number, step in enumerate(row) if (at, number) not in left_out])
        for at, row in enumerate(rule[1])
    ]
    return rule[0], tuple(rows)


def joined_rows(rule, visit):
    """Give a RULE with the rows of a visit and of the next one as one row."""
    rows = rule[1]
    return rule[0], rows[:visit] + (rows[visit] + rows[visit + 1],) + rows[visit + 2:]


def joined_visits(program, procedure, visit):
    """Give the PROGRAM with this visit of the PROCEDURE and the next one as one."""
    program = frozen(program)
    check_procedure(program, procedure)
    if not 0 <= visit < len(program[procedure][0]) - 1:
        raise Unfit()
    found = []
    for at, (ins, outs, rules) in enumerate(program):
        changed = [joined_rule(rule, procedure, visit) for rule in rules]
        if at == procedure:
            ins, outs = joined_sets(ins, visit), joined_sets(outs, visit)
            changed = [joined_rows(rule, visit) for rule in changed]
        found.append((ins, outs, tuple(changed)))
    if first_fault(tuple(found)) is not None:
        raise CanNot()
    return tuple(found)
