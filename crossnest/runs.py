"""RUNS: their EVENTS, values and uses, and what is known of them at a MOMENT."""

from crossnest.checks import local_names
from crossnest.drafts import all_names
from crossnest.errors import NoEvent, NoName
from crossnest.forms import frozen
from crossnest.leasts import part_at
from crossnest.walks import run_of


def check_event(walk, number):
    """Raise NoEvent if the RUN has no EVENT of this number."""
    if not 0 <= number < len(walk.steps):
        raise NoEvent(number)


def check_value(walk, value):
    """Raise NoEvent if the RUN has no value of this number."""
    check_event(walk, value)
    if not walk.makes_value(value):
        raise NoEvent(value)


def check_moment(walk, number):
    """Raise NoEvent if the RUN has no such MOMENT."""
    if not 0 <= number <= len(walk.steps):
        raise NoEvent(number)


def node_at(walk, tree, path):
    """Give the number of the node at this PATH; raise NoPath if there is none."""
    part_at(tree, path)
    node = 0
    for place in path:
        node = walk.kids[node][place]
    return node


def has_word(walk, node, word):
    """Tell whether word is one at which a value can come to stand at this node."""
    procedure, rule = walk.source[walk.procedures[node]], walk.rule_of(node)
    if isinstance(word, str):
        return word in all_names(procedure[0] + procedure[1]) or word in local_names(procedure, rule)
    if len(word) != 2 or not 0 <= word[0] < len(rule[0]):
        return False
    callee = walk.source[rule[0][word[0]]]
    return word[1] in all_names(callee[0] + callee[1])


def events(program, tree):
    """List the EVENTS of the RUN."""
    walk = run_of(frozen(program), frozen(tree))
    return [walk.event_at(event) for event in range(len(walk.steps))]


def step_of(program, tree, number):
    """Give the STEP of this EVENT; of an asking the pair ("ask", names)."""
    walk = run_of(frozen(program), frozen(tree))
    check_event(walk, number)
    return walk.steps[number]


def gone_to(program, tree, path):
    """Tell how often the node is gone to."""
    tree = frozen(tree)
    walk = run_of(frozen(program), tree)
    return walk.gone[node_at(walk, tree, frozen(path))]


def value_of(program, tree, path, word, number):
    """Give the value at this WORD of the node at the MOMENT number, None if it is not set."""
    tree, word = frozen(tree), frozen(word)
    walk = run_of(frozen(program), tree)
    node = node_at(walk, tree, frozen(path))
    if not has_word(walk, node, word):
        raise NoName(word)
    check_moment(walk, number)
    slot = walk.slot_of(node, word)
    if slot not in walk.set_at or walk.set_at[slot] >= number:
        return None
    return walk.value_at[slot]


def reads_of(program, tree, number):
    """Give the set of the values that this EVENT uses."""
    walk = run_of(frozen(program), frozen(tree))
    check_event(walk, number)
    return walk.used_by(number)


def uses_of(program, tree, value):
    """Give the set of the numbers of the EVENTS that use the value."""
    walk = run_of(frozen(program), frozen(tree))
    check_value(walk, value)
    return tuple(walk.users_of_values().get(value, []))


def origin_of(program, tree, value):
    """Give the pair (procedure, name) that the value is of."""
    walk = run_of(frozen(program), frozen(tree))
    check_value(walk, value)
    return walk.pair_made(value)


def makes_of(program, tree, lot):
    """Give the set of the values of the RUN that are of this LOT."""
    walk = run_of(frozen(program), frozen(tree))
    return tuple(walk.values_in(frozen(lot)))


def row_for(program, tree, lot):
    """Tell what becomes of the values of this LOT, EVENT by EVENT."""
    walk = run_of(frozen(program), frozen(tree))
    told = {value: True for value in walk.values_in(frozen(lot))}
    row = []
    for event in range(len(walk.steps)):
        for value in walk.used_by(event):
            if value in told:
                row.append(("use", value, event))
        if event in told:
            row.append(("make", event, event))
    return tuple(row)


def moments(program, tree):
    """List, for each MOMENT from 0 on, the set of the PATHS of the nodes that are known."""
    walk = run_of(frozen(program), frozen(tree))
    coming = {}
    for node, entered in enumerate(walk.entered):
        if entered is not None:
            coming.setdefault(entered + 1, []).append(walk.paths[node])
    found, known = [], ()
    for moment in range(len(walk.steps) + 1):
        if moment in coming:
            known = tuple(sorted(list(known) + coming[moment]))
        found.append(known)
    return found


def left_behind(program, tree, number):
    """Give the EVENTS from number on whose nodes are known at the MOMENT number."""
    walk = run_of(frozen(program), frozen(tree))
    check_moment(walk, number)
    return tuple([
        walk.event_at(event) for event in range(number, len(walk.steps))
        if walk.is_known(walk.nodes[event], number)
    ])


def open_calls(program, tree, number):
    """Give the set of the triples (path, procedure, visits) of the nodes that are open."""
    walk = run_of(frozen(program), frozen(tree))
    check_moment(walk, number)
    return tuple([
        (walk.paths[node], walk.procedures[node], walk.gone[node])
        for node in range(1, len(walk.paths)) if walk.is_open(node, number)
    ])
