"""What a TREE can do with values that come in, and with one that is inside.

A *member* is a tuple of numbers, first for the value inside, then for each IN of the PROCEDURE
(0 for those that do not come any more): bit 0 tells that an EVENT of the TREE uses the value,
bit 1 + port that it comes to stand at the OUT of this port.
"""

from crossnest.plans import ENTER, GO, HAND, MAKE


def pass_through(plan, act, streams, told, member):
    """Let the streams that stand at INS of this visit of the callee go through it."""
    offset = plan.offsets[act[1]]
    for port in plan.ports[act[1]].ins_by_visit[act[2]]:
        does = member[1 + port]
        for at in range(len(streams)):
            if does and streams[at] >> (offset + port) & 1:
                told[at] |= does & 1
                streams[at] |= (does >> 1) << offset


def do_act(plan, act, streams, told):
    """Do an act that is no go."""
    if act[0] == ENTER:
        for port in plan.own.ins_by_visit[act[1]]:
            streams[1 + port] |= 1 << port
    elif act[0] == MAKE:
        for at in range(len(streams)):
            if streams[at] & act[2]:
                told[at] |= 1
    elif act[0] == HAND:
        for at in range(len(streams)):
            if streams[at] & act[2]:
                streams[at] |= act[1]
    else:
        for at in range(len(streams)):
            told[at] |= (streams[at] & act[2]) << 1


def advance(plan, at, streams, told, members):
    """Do the acts from at on, up to a go to a callee without a member; tell where that is.

    streams has, for each part of a member, the WORDS at which its value stands, told what
    became of it so far: both change. members has a member for each place, () for a callee that
    is not gone to any more, None for one that is not chosen yet.
    """
    while at < len(plan.acts):
        act = plan.acts[at]
        if act[0] != GO:
            do_act(plan, act, streams, told)
        elif members[act[1]] is None:
            return at
        else:
            pass_through(plan, act, streams, told, members[act[1]])
        at += 1
    return at


def compose(plan, members):
    """Give the member of a TREE with this RULE, of the members of its callees."""
    streams = [0 for _ in range(1 + plan.own.many_ins)]
    told = list(streams)
    advance(plan, 0, streams, told, members)
    return tuple(told)


def rest_of(plan, at, place, member):
    """Give what still matters, from the act at on, of what the member of a callee does."""
    if member is None:
        return None
    gone = plan.counts[at][place]
    if gone == plan.goes[place] or not member:
        return ()
    ins = plan.ports[place].ins_by_visit[gone:]
    kept = {1 + port: True for ports in ins for port in ports}
    read = 1 | (plan.needed[at] >> plan.offsets[place]) << 1
    return tuple([does & read if number in kept else 0 for number, does in enumerate(member)])


def chosen_at_once(plan, at, inside, families):
    """List the states (streams, told, members) by the members of callees that are known.

    For a callee to which no go is ahead of the act at no member is chosen yet.
    """
    empty = tuple([0 for _ in range(1 + plan.own.many_ins)])
    found = [((inside,) + empty[1:], empty, ())]
    for place, family in enumerate(families):
        if plan.counts[at][place] == 0 and plan.goes[place] > 0:
            found = [(streams, told, chosen + (None,)) for streams, told, chosen in found]
            continue
        more = {}
        for streams, told, chosen in found:
            for member in family:
                does = member[0] if member else 0
                stands = streams[0] | (does >> 1) << plan.offsets[place]
                rest = rest_of(plan, at, place, member)
                used = (told[0] | does & 1,) + told[1:]
                more[((stands,) + streams[1:], used, chosen + (rest,))] = True
        found = list(more)
    return found


def branched(plan, at, state, family):
    """List the states behind the choice of a member for the callee to which the act goes."""
    streams, told, chosen = state
    place, taken = plan.acts[at][1], 0
    for stream in streams:
        taken |= stream >> plan.offsets[place]
    idle = {1 + port: True for port in plan.ports[place].ins_by_visit[0] if not taken >> port & 1}
    found = {}
    for member in family:
        rest = rest_of(plan, at, place, member)
        rest = tuple([0 if number in idle else does for number, does in enumerate(rest)])
        found[rest] = True
    return [(streams, told, chosen[:place] + (rest,) + chosen[place + 1:]) for rest in found]


def compose_all(plan, at, inside, families):
    """List the members that TREES with this RULE have from the act at on, by all members of
    the families of their callees, for a value that stands at the WORDS inside by then."""
    states = chosen_at_once(plan, at, inside, families)
    while True:
        left, stop = {}, at
        for streams, told, chosen in states:
            streams, told = list(streams), list(told)
            stop = advance(plan, at, streams, told, chosen)
            alive = tuple([stream & plan.needed[stop] for stream in streams])
            rest = [rest_of(plan, stop, place, part) for place, part in enumerate(chosen)]
            left[(alive, tuple(told), tuple(rest))] = True
        if stop == len(plan.acts):
            return [told for _, told, _ in left]
        at = stop
        family = families[plan.acts[at][1]]
        states = [more for state in left for more in branched(plan, at, state, family)]


def coded(member, width):
    """Give a number that tells a member, its parts having so many bits."""
    code = 0
    for does in reversed(member):
        code = code << width | does
    return code


def decoded(code, width, many):
    """Give the member of so many parts that a number tells."""
    return tuple([code >> width * at & (1 << width) - 1 for at in range(many)])


def lies_within(code, codes):
    """Tell whether the member of this code is within another one of those of these codes."""
    for other in codes:
        if code & ~other == 0 and code != other:
            return True
    return False


def greatest(members, width):
    """List the members, unlike ones, that are within no other one, ascending."""
    codes = {coded(member, width): member for member in members}
    return sorted([codes[code] for code in codes if not lies_within(code, codes)])


def member_of(plans, seat, tree):
    """Give the member of this TREE of the PROCEDURE of seat, gone to as often as seat tells."""
    rows, waiting = [], [(seat, tree, None, None)]
    while waiting:
        where, (rule, trees), caller, place = waiting.pop()
        plan = plans.plans_of(where)[rule]
        if caller is not None:
            rows[caller][1][place] = len(rows)
        for at, many in enumerate(plan.goes):
            if many > 0:
                waiting.append(((plan.callees[at], many), trees[at], len(rows), at))
        rows.append((plan, [None for _ in trees]))
    done = [() for _ in rows]
    for at in reversed(range(len(rows))):
        plan, kids = rows[at]
        done[at] = compose(plan, [() if kid is None else done[kid] for kid in kids])
    return done[0]
