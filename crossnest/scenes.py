"""How many values are alive at a MOMENT, node by node: the web of all spots (see webs).

The *status* of a node at a MOMENT is (procedure, many, done, cut), as the SEATS of cuts. Its
*manner* tells what can become of values that come into it: a tuple of members, one for each way
in which the RULES that are not known yet may be followed. A member has for each port a number: bit
0 tells that a value that came in at it can be used within, bit 1 + port that it comes to stand at
the OUT of this port, in a visit that is done or in a later one. Its *setting* tells likewise what
can become, outside, of values that come out of it. A *scene* is (status, manner, setting).
"""

from crossnest.checks import pair_of, seats_of
from crossnest.cuts import courses_of
from crossnest.leasts import shallow_table
from crossnest.passing import best_members
from crossnest.plans import GO, HAND, LEAVE, MAKE, Plans
from crossnest.streams import greatest


def flow(plan, stop, start, words, parts, outer):
    """Tell what becomes, from an act on, of a value at these WORDS: bit 0 tells that it is used
    behind the act at stop, bit 1 + word that it comes to stand there.

    parts has a member for each place, None for a callee that keeps what comes into it; outer is
    a member of the setting, or None.
    """
    used = 0
    for at in range(start, len(plan.acts)):
        act = plan.acts[at]
        if act[0] == MAKE:
            used |= 1 if at >= stop and words & act[2] else 0
        elif act[0] == HAND:
            words |= act[1] if words & act[2] else 0
        elif act[0] == GO and parts[act[1]] is not None:
            offset = plan.offsets[act[1]]
            for port in plan.ports[act[1]].ins_by_visit[act[2]]:
                if words >> offset + port & 1:
                    used |= parts[act[1]][port] & 1
                    words |= parts[act[1]][port] >> 1 << offset
        elif act[0] == LEAVE and outer is not None:
            for port, does in enumerate(outer):
                if words & act[2] & 1 << port:
                    used |= does & 1
                    words |= does >> 1
    return used | words << 1


def rows_by(choices):
    """List the tuples with one of each of these lists."""
    found = [()]
    for parts in choices:
        found = [row + (part,) for row in found for part in parts]
    return found


def settled_members(members, width, is_once):
    """Give the members that do the most; if a value passes but once, one that does all."""
    if is_once:
        together = [0 for _ in members[0]]
        for member in members:
            together = [one | other for one, other in zip(together, member)]
        return (tuple(together),)
    return tuple(greatest(members, width))


def pairs_holding(program, lot):
    """Give a dict with the pairs as keys at which values of a LOT can come to stand."""
    found, changed = {pair: True for pair in lot}, True
    while changed:
        changed = False
        for at, procedure in enumerate(program):
            for rule in procedure[2]:
                for step in [step for row in rule[1] for step in row if step[0] == "hand"]:
                    pair = pair_of(at, rule, step[1])
                    if pair not in found and pair_of(at, rule, step[2]) in found:
                        found[pair] = True
                        changed = True
    return found


def can_come_to_use(port, outer, inner):
    """Tell whether a value that came out at a port can be used, outside or when it is back in."""
    seen, waiting = {(True, port): True}, [(True, port)]
    while waiting:
        is_out, at = waiting.pop()
        does = outer[at] if is_out else inner[at]
        if does & 1:
            return True
        for other in range(len(outer)):
            mark = (not is_out, other)
            if does >> 1 + other & 1 and mark not in seen:
                seen[mark] = True
                waiting.append(mark)
    return False


class Scenes:
    """The scenes of a PROGRAM as nodes of a web; what counts by an edge is the list of the pairs
    of those values of a LOT that the node itself made and that are alive."""

    def __init__(self, program, lot):
        self.source = program
        self.plans = Plans(program)
        self.counted = {pair: True for pair in lot}
        # For each PROCEDURE the ports at which values of the LOT can stand: the others do not
        # matter.
        held = pairs_holding(program, lot)
        self.held = [
            sum([bit for name, bit in ports.bits.items() if (at, name) in held])
            for at, ports in enumerate(self.plans.ports)
        ]
        self.settings = {}
        best = best_members(self.plans, seats_of(program))
        # The manners of nodes that are not known.
        self.strange = {}
        for seat, members in best.items():
            ways, width = [], self.plans.ports[seat[0]].width
            for member in members:
                ways.append(tuple([
                    does if self.held[seat[0]] >> port & 1 else 0
                    for port, does in enumerate(member[1:])
                ]))
            self.strange[seat] = settled_members(ways, width, seat[1] == 1)
        # By status: its Courses, and its manners, each with the pairs (Course, parts) that
        # have it, parts being the manners of the callees.
        self.laid, self.made, self.tried = {}, {}, {}
        self.rooted = self.starting_statuses()
        self.find_statuses()
        while self.find_manners():
            pass
        self.shallow = shallow_table(program)
        self.numbers, self.marks = {}, []
        # For each node its edges, and for each of these the levels that a TREE has at least by
        # the callees that are not gone to.
        self.edges, self.floors = [], []
        self.roots = self.find_scenes()

    def starting_statuses(self):
        """List the statuses of the root."""
        many = len(self.source[0][0])
        within = [(0, many, done, 1) for done in range(many)]
        return within + [(0, many, done, 0) for done in range(1, many)]

    def find_statuses(self):
        """Find all statuses, with their Courses."""
        waiting = list(self.rooted)
        while waiting:
            status = waiting.pop()
            if status in self.laid:
                continue
            self.laid[status], self.made[status] = [], {}
            for plan in self.plans.plans_of(status[:2]):
                self.laid[status].extend(courses_of(plan, status[2], status[3]))
            for course in self.laid[status]:
                waiting.extend([seat for seat in course.seats if seat is not None])

    def find_manners(self):
        """Find manners that come of those found so far; tell whether there were any."""
        found = False
        for status, courses in self.laid.items():
            for course in courses:
                choices = [
                    [None] if seat is None else list(self.made[seat]) for seat in course.seats
                ]
                for parts in rows_by(choices):
                    mark = (status, course.plan.number, course.stop, parts)
                    if mark not in self.tried:
                        self.tried[mark] = True
                        manner = self.manner_of(status, course, parts)
                        self.made[status].setdefault(manner, []).append((course, parts))
                        found = True
        return found

    def manners_of(self, course, parts):
        """List the manners of the callees, those that are not known among them."""
        plan, found = course.plan, []
        for place, part in enumerate(parts):
            if part is None and plan.goes[place] > 0:
                part = self.strange[(plan.callees[place], plan.goes[place])]
            found.append([()] if part is None else list(part))
        return found

    def manner_of(self, status, course, parts):
        """Give the manner of a node with this Course and these manners of its callees."""
        plan, members = course.plan, []
        outs = sum(plan.own.out_masks)
        for row in rows_by(self.manners_of(course, parts)):
            member = [0 for _ in plan.own.names]
            for visit in range(status[1]):
                for port in self.ports_held(status[0], plan.own.in_masks[visit]):
                    told = flow(plan, course.stop, plan.begins[visit], 1 << port, row, None)
                    member[port] = told & (1 | outs << 1)
            members.append(tuple(member))
        # So often can a value come in and leave again.
        return settled_members(members, plan.own.width, status[1] - status[2] <= 1)

    def setting_of(self, course, parts, setting, place):
        """Give the setting of the callee at this place."""
        others = parts[:place] + (None,) + parts[place + 1:]
        mark = (course.plan.seat, course.plan.number, course.stop, others, setting, place)
        if mark not in self.settings:
            self.settings[mark] = self.find_setting(course, parts, setting, place)
        return self.settings[mark]

    def find_setting(self, course, parts, setting, place):
        """Find this setting."""
        plan, members = course.plan, []
        ports, offset = plan.ports[place], plan.offsets[place]
        families = self.manners_of(course, parts)
        families[place] = [None]
        ins = sum(ports.in_masks)
        for row in rows_by(families):
            for outer in setting:
                member = [0 for _ in ports.names]
                for visit in range(plan.goes[place]):
                    start = plan.behind[(place, visit)]
                    for port in self.ports_held(plan.callees[place], ports.out_masks[visit]):
                        words = 1 << offset + port
                        told = flow(plan, course.stop, start, words, row, outer)
                        member[port] = told & 1 | (told >> 1 + offset & ins) << 1
                members.append(tuple(member))
        _, many, done, cut = course.seats[place]
        return settled_members(members, ports.width, done + cut == many)

    def folded(self, status, manner, setting):
        """Give a setting that does the same for values made within: if the node is gone to at
        most once more, what comes out of it can be used or not, as both tell together."""
        if status[1] - status[2] > 1:
            return setting
        many = len(self.plans.ports[status[0]].names)
        found = [0 for _ in range(many)]
        for member in setting:
            for port in range(many):
                found[port] |= 1 if can_come_to_use(port, member, manner[0]) else 0
        return (tuple(found),)

    def lives_of(self, course, parts, setting):
        """List the pairs of the values made by the node itself that are alive."""
        plan, found = course.plan, []
        rows = [
            (row, outer) for row in rows_by(self.manners_of(course, parts)) for outer in setting
        ]
        for at, act in enumerate(plan.acts[:course.stop]):
            if act[0] == MAKE and act[3] in self.counted:
                told = [
                    flow(plan, course.stop, at + 1, act[1], row, outer) & 1 for row, outer in rows
                ]
                if any(told):
                    found.append(act[3])
        return found

    def ports_held(self, procedure, mask):
        """List those ports of a mask at which values of the LOT can stand."""
        mask &= self.held[procedure]
        return [port for port in range(mask.bit_length()) if mask >> port & 1]

    def node_of(self, mark):
        """Give the node of a scene."""
        if mark not in self.numbers:
            self.numbers[mark] = len(self.marks)
            self.marks.append(mark)
            self.edges.append([])
            self.floors.append([])
        return self.numbers[mark]

    def find_scenes(self):
        """Find all scenes of RUNS, with their edges; list those of the root."""
        ports, roots = self.plans.ports[0], []
        for status in self.rooted:
            asked = sum(ports.out_masks[status[2]:])
            member = tuple([1 if asked >> port & 1 else 0 for port in range(len(ports.names))])
            for manner in self.made[status]:
                roots.append(self.node_of((status, manner, (member,))))
        at = 0
        while at < len(self.marks):
            status, manner, setting = self.marks[at]
            for course, parts in self.made[status][manner]:
                sources = []
                for place, seat in enumerate(course.seats):
                    if seat is not None:
                        inner = self.setting_of(course, parts, setting, place)
                        inner = self.folded(seat, parts[place], inner)
                        sources.append((place, self.node_of((seat, parts[place], inner))))
                lives = self.lives_of(course, parts, setting)
                idle = [
                    self.shallow[callee] if seat is None else (0, None)
                    for callee, seat in zip(course.plan.callees, course.seats)
                ]
                base = (course.plan.number, tuple([told[1] for told in idle]))
                self.edges[at].append((lives, base, tuple(sources)))
                self.floors[at].append(1 + max([0] + [told[0] for told in idle]))
            at += 1
        return roots

    def edges_for(self, lot):
        """Give the edges, how many values of a LOT are alive being what counts by them."""
        pairs = {pair: True for pair in lot}
        return [
            [(len([pair for pair in lives if pair in pairs]), base, sources)
             for lives, base, sources in told]
            for told in self.edges
        ]

    def numbered(self):
        """Give a dict with all nodes as keys."""
        return {node: True for node in range(len(self.edges))}
