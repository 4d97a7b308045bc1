"""What is heard of a value by those who ask, and clashes that harm nobody."""

from crossnest.checks import check_procedure
from crossnest.errors import TooMany
from crossnest.forms import frozen
from crossnest.hearing import shadow_of, shadows_of, tree_hearing
from crossnest.programs import pairs_of
from crossnest.rounds import spoilt_in
from crossnest.runs import check_value
from crossnest.walks import run_of

MOST_IN_TERM = 2000


def shadow(program, procedure, tree):
    """Give the SHADOW of this TREE of the PROCEDURE."""
    program = frozen(program)
    check_procedure(program, procedure)
    return shadow_of(program, procedure, frozen(tree))


def shadows(program, procedure):
    """Give the set of the SHADOWS of all TREES of the PROCEDURE."""
    program = frozen(program)
    check_procedure(program, procedure)
    return tuple(shadows_of(program, procedure))


def hung_on(walk, values):
    """Give a dict with these values and all on which they hang as keys."""
    found, waiting = {value: True for value in values}, list(values)
    while waiting:
        value = waiting.pop()
        for other in walk.used_by(value):
            if other not in found:
                found[other] = True
                waiting.append(other)
    return found


def askings(walk):
    """List the EVENTS that are askings."""
    return [event for event, step in enumerate(walk.steps) if step[0] == "ask"]


def heard_in(walk):
    """Give a dict with the values that are heard in a RUN as keys."""
    return hung_on(walk, sorted({value for event in askings(walk) for value in walk.used_by(event)}))


def heard_pairs(walk):
    """List the pairs of the values that are heard in a RUN."""
    return [walk.pair_made(value) for value in heard_in(walk)]


def can_be_heard(program):
    """Give the set of the pairs that can be heard."""
    program = frozen(program)
    found = {}
    for pair in pairs_of(program):
        if pair not in found:
            tree = tree_hearing(program, pair)
            if tree is not None:
                for other in heard_pairs(run_of(program, tree)):
                    found[other] = True
    return tuple(sorted(found))


def heard_tree(program, pair):
    """Give a TREE with the fewest nodes in whose RUN a value of the pair is heard, None without."""
    return tree_hearing(frozen(program), frozen(pair))


def hangs_on(program, tree, event, other):
    """Tell whether the value made at event hangs on the one made at other."""
    walk = run_of(frozen(program), frozen(tree))
    check_value(walk, event)
    check_value(walk, other)
    return event != other and other in hung_on(walk, [event])


def heard_events(program, tree):
    """Give the set of the EVENTS whose values are heard."""
    return tuple(sorted(heard_in(run_of(frozen(program), frozen(tree)))))


def harmless_in(program, tree, lot, many):
    """Tell whether no spoilt use is at an asking, or at the make of a value that is heard."""
    walk = run_of(frozen(program), frozen(tree))
    heard = heard_in(walk)
    for use, _, _ in spoilt_in(walk, frozen(lot), many):
        if use in heard or walk.steps[use][0] == "ask":
            return False
    return True


def sources_found(walk, spoilt_uses):
    """List, for each EVENT, the values that it finds where it reads, in order."""
    found = {(use, made): other for use, made, other in spoilt_uses}
    rows = []
    for event, slots in enumerate(walk.sources):
        values = [walk.value_at[slot] for slot in slots]
        rows.append([found.get((event, value), value) for value in values])
    return rows


def check_terms(walk, rows, told):
    """Raise TooMany if the TERM of one of the told values would have too many EVENTS."""
    sizes = {}
    for event, values in enumerate(rows):
        if walk.makes_value(event):
            # What is above the bound is not counted: it may be huge.
            sizes[event] = min(1 + MOST_IN_TERM, 1 + sum([sizes[value] for value in values]))
    if any([sizes[value] > MOST_IN_TERM for value in told]):
        raise TooMany()


def terms_told(walk, spoilt_uses):
    """Give the TERMS that are told at each asking, by what each EVENT finds."""
    rows = sources_found(walk, spoilt_uses)
    told = [value for event in askings(walk) for value in rows[event]]
    check_terms(walk, rows, told)
    needed, waiting = {value: True for value in told}, list(told)
    while waiting:
        value = waiting.pop()
        for other in rows[value]:
            if other not in needed:
                needed[other] = True
                waiting.append(other)
    terms = {}
    for value in sorted(needed):
        terms[value] = (walk.event_at(value),) + tuple([terms[other] for other in rows[value]])
    return tuple([tuple([terms[value] for value in rows[event]]) for event in askings(walk)])


def asked_terms(program, tree):
    """Give, for each visit of the start, the TERMS of its OUTS."""
    return terms_told(run_of(frozen(program), frozen(tree)), [])


def spoilt_terms(program, tree, lot, many):
    """Give the TERMS that are told if the LOT is kept in a round of many cells."""
    walk = run_of(frozen(program), frozen(tree))
    return terms_told(walk, spoilt_in(walk, frozen(lot), many))
