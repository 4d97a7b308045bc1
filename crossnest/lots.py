"""Names that share a home: which LOTS fit one, and how a LOT is parted into such."""

from crossnest.checks import check_name, check_ports, check_procedure
from crossnest.errors import Unfit
from crossnest.forms import frozen, is_pair_set
from crossnest.groups import best_parting, groups_of
from crossnest.hunts import is_taken, pairs_taking
from crossnest.patterns import pattern_of
from crossnest.queues import can_be_order, can_be_queue
from crossnest.stacks import can_be_region, can_be_stack

HOMES = ("cell", "stack", "region", "queue", "order")


def check_asked(program, home, pairs):
    """Raise NoProcedure, NoName or Unfit if there is no such pair, or no such home."""
    for procedure, _ in pairs:
        check_procedure(program, procedure)
    for procedure, name in pairs:
        check_name(program, procedure, name)
    if home not in HOMES:
        raise Unfit()


def does_fit(program, home, lot):
    """Tell whether one such home serves the LOT."""
    if home == "cell":
        return not is_taken(program, lot, pattern_of("cell", 1))
    if home == "stack":
        return can_be_stack(program, lot)
    if home == "queue":
        return can_be_queue(program, lot)
    return can_be_region(program, lot) if home == "region" else can_be_order(program, lot)


class Table:
    """Which pairs of a LOT share, as they are asked for; pairs are told by their places in it."""

    def __init__(self, program, home, lot):
        self.source, self.home, self.lot = program, home, lot
        self.stored, self.spoiling = {}, None

    def find_spoiling(self):
        """Find all tuples of pairs values of which spoil the home, if it has a PATTERN."""
        told = pairs_taking(self.source, self.lot, pattern_of(self.home, 1))
        self.spoiling = {pairs: True for pairs in told}

    def do_share(self, one, other):
        """Tell whether two pairs of the LOT share."""
        mark = (min(one, other), max(one, other))
        if mark not in self.stored:
            pairs = [self.lot[mark[0]], self.lot[mark[1]]]
            if self.home == "region" or self.home == "order":
                lot = tuple(sorted({pair: True for pair in pairs}))
                self.stored[mark] = does_fit(self.source, self.home, lot)
            else:
                if self.spoiling is None:
                    self.find_spoiling()
                twos = [(pair, two) for pair in pairs for two in pairs]
                self.stored[mark] = not any([two in self.spoiling for two in twos])
        return self.stored[mark]

    def is_good(self, at):
        """Tell whether a pair shares with itself."""
        return self.do_share(at, at)

    def goes_with(self, group, at):
        """Tell whether a pair shares with all of a group."""
        return all([self.do_share(other, at) for other in group])

    def told(self, group):
        """Give the LOT of a group of pairs."""
        return tuple([self.lot[at] for at in group])


def share(program, home, one, other):
    """Tell whether the LOT of both pairs fits."""
    program, one, other = frozen(program), frozen(one), frozen(other)
    check_asked(program, home, (one, other))
    return does_fit(program, home, tuple(sorted({one: True, other: True})))


def check_fitting(program, home, lot):
    """Raise TooMany as it is raised for a LOT of one or two of these pairs, if there are any."""
    # A cell raises nothing: [11] names no bound.
    if home != "cell" and len(lot) > 0:
        check_ports(program)


def table_for(program, home, lot):
    """Give the Table of a LOT, all being checked."""
    program, lot = frozen(program), frozen(lot)
    check_asked(program, home, lot)
    check_fitting(program, home, lot)
    return Table(program, home, lot)


def table_of(program, home, lot):
    """Give the set of the pairs (one, other) of pairs of the LOT that share."""
    table = table_for(program, home, lot)
    many = len(table.lot)
    return tuple([
        (table.lot[one], table.lot[other]) for one in range(many) for other in range(one, many)
        if table.do_share(one, other)
    ])


def fits(program, home, lot):
    """Tell whether one such home serves the LOT."""
    program, lot = frozen(program), frozen(lot)
    check_asked(program, home, lot)
    return does_fit(program, home, lot)


def greatest_lots(program, home, lot):
    """Give the LOTS of pairs of the LOT that fit and lie within no other such one."""
    table = table_for(program, home, lot)
    good = [at for at in range(len(table.lot)) if table.is_good(at)]

    def may_join(group, at):
        return at in good and table.goes_with(group, at)

    found = []
    for group in groups_of(len(table.lot), may_join):
        others = [at for at in good if at not in group and table.goes_with(group, at)]
        if group and not others:
            found.append(table.told(group))
    return tuple(sorted(found))


def least_parting(table, cost):
    """Give the PARTING with the least cost, the fewest LOTS, and the least; None without any."""
    if not all([table.is_good(at) for at in range(len(table.lot))]):
        return None

    def may_join(group, at):
        return table.goes_with(group, at)

    best = best_parting(len(table.lot), may_join, cost)
    return tuple([table.told(group) for group in best])


def fewest_lots(program, home, lot):
    """Give the least of the PARTINGS with the fewest LOTS, None if there is no PARTING."""
    return least_parting(table_for(program, home, lot), lambda groups: 0)


def is_lot_within(thing, lot):
    """Tell whether thing is a LOT, not (), of pairs of this LOT."""
    return is_pair_set(thing) and len(thing) > 0 and all([pair in lot for pair in thing])


def is_parting(program, home, lot, thing):
    """Tell whether thing is a PARTING of the LOT."""
    program, lot = frozen(program), frozen(lot)
    check_asked(program, home, lot)
    if not isinstance(thing, tuple):
        return False
    if not all([is_lot_within(part, lot) for part in thing]):
        return False
    if not all([thing[at] < thing[at + 1] for at in range(len(thing) - 1)]):
        return False
    if sorted([pair for part in thing for pair in part]) != sorted(lot):
        return False
    return all([does_fit(program, home, part) for part in thing])


def none_share(program, home, lot):
    """Give the LOT with the most pairs no two of which share, of several the least."""
    table = table_for(program, home, lot)

    def may_join(group, at):
        return not any([table.do_share(other, at) for other in group])

    best = ()
    for group in groups_of(len(table.lot), may_join):
        if len(group) > len(best):
            best = group
    return table.told(best)


def cheapest_lots(program, home, lot, sizes):
    """Give the PARTING with the least sum of sizes, the fewest LOTS, and the least."""
    program, lot, sizes = frozen(program), frozen(lot), frozen(sizes)
    check_asked(program, home, lot)
    if len(sizes) != len(lot):
        raise Unfit()
    table = table_for(program, home, lot)

    def cost(groups):
        return sum([max([sizes[at] for at in group]) for group in groups])

    return least_parting(table, cost)
