"""Values written in place: over one of those that they are made of."""

from crossnest.checks import check_rule
from crossnest.errors import Unfit
from crossnest.forms import frozen, is_number, is_tuple_of
from crossnest.growth import Growth
from crossnest.hunts import first_tree
from crossnest.leasts import fits_procedure
from crossnest.plans import Plans
from crossnest.programs import pairs_of
from crossnest.trails import Search, Tracing
from crossnest.walks import run_of


class Overwriting(Tracing):
    """A search for a make, an EVENT of a SPOT whose source holds its value, and a later use."""

    def __init__(self, plans, spot):
        pairs = {pair: True for pair in pairs_of(plans.source)}
        super().__init__(plans, Search((("make", 0, pairs), ("spot", 0, None), ("use", 0, None)), 1))
        self.spot = spot

    def makings(self, trip, act):
        """List the Trips behind a make."""
        if trip.phase != 1:
            return super().makings(trip, act)
        procedure, rule, visit, step, source = self.spot
        plan = trip.plan
        if (plan.seat[0], plan.number) != (procedure, rule) or visit >= plan.seat[1]:
            return None
        word = plan.rule[1][visit][step][2][source] if trip.at == plan.begins[visit] + step else None
        if word is None or trip.held[0] & plan.bits[word] == 0:
            return None
        trip.reach(2)
        return [trip]


def spots(program):
    """Give the set of all SPOTS."""
    found = []
    for procedure, (_, _, rules) in enumerate(frozen(program)):
        for number, rule in enumerate(rules):
            for visit, row in enumerate(rule[1]):
                for step, told in enumerate(row):
                    if told[0] == "make":
                        for source in range(len(told[2])):
                            found.append((procedure, number, visit, step, source))
    return tuple(found)


def check_spot(program, spot):
    """Raise NoProcedure, NoRule or Unfit if there is no such SPOT."""
    check_rule(program, spot[0], spot[1])
    if spot not in spots(program):
        raise Unfit()


def clash_tree(program, spot):
    """Give a TREE with a RUN in which the value is used later, None if there is none."""
    return first_tree(Growth(program, Overwriting(Plans(program), spot)))


def over_spots(program):
    """Give the set of the SPOTS that may be written over."""
    program = frozen(program)
    return tuple([spot for spot in spots(program) if clash_tree(program, spot) is None])


def may_write_over(program, spot):
    """Tell whether the SPOT may be written over."""
    program, spot = frozen(program), frozen(spot)
    check_spot(program, spot)
    return clash_tree(program, spot) is None


def events_of(walk, spot):
    """List the EVENTS of the STEP of a SPOT, each with the value that its source holds."""
    procedure, rule, visit, step, source = spot
    found = []
    for event, node in enumerate(walk.nodes):
        told = (walk.procedures[node], walk.rules[node], walk.visits[event], walk.numbers[event])
        if told == (procedure, rule, visit, step):
            found.append((event, walk.value_at[walk.sources[event][source]]))
    return found


def over_clash(program, spot):
    """Give (tree, event, use): a value that the SPOT would write over is used later; None if
    there is none."""
    program, spot = frozen(program), frozen(spot)
    check_spot(program, spot)
    tree = clash_tree(program, spot)
    if tree is None:
        return None
    walk = run_of(program, tree)
    users = walk.users_of_values()
    for event, value in events_of(walk, spot):
        if users[value][-1] > event:
            return tree, event, users[value][-1]
    return None


def is_over_clash(program, spot, thing):
    """Tell whether thing is such a triple as over_clash tells."""
    program, spot = frozen(program), frozen(spot)
    check_spot(program, spot)
    if not is_tuple_of(thing, 3) or not is_number(thing[1]) or not is_number(thing[2]):
        return False
    tree, event, use = thing
    if event >= use or not fits_procedure(program, 0, tree):
        return False
    walk = run_of(program, tree)
    users = walk.users_of_values()
    held = [value for at, value in events_of(walk, spot) if at == event]
    return len(held) > 0 and use in users.get(held[0], [])


def best_overs(program):
    """Give the OVERS with, of each STEP that has some, the least SPOT that may be written over."""
    found = {}
    for spot in over_spots(program):
        found.setdefault(spot[:4], spot)
    return tuple([spot for spot in found.values()])


def homes_in(walk, overs):
    """Give a dict with the home of each value of a RUN."""
    sources = {spot[:4]: spot[4] for spot in overs}
    homes, many = {}, 0
    for event, node in enumerate(walk.nodes):
        if not walk.makes_value(event):
            continue
        step = (walk.procedures[node], walk.rules[node], walk.visits[event], walk.numbers[event])
        if step in sources:
            homes[event] = homes[walk.value_at[walk.sources[event][sources[step]]]]
        else:
            homes[event] = many
            many += 1
    return homes


def homes_in_place(program, tree, overs):
    """Give the pairs (made, home) of the values of the RUN, in place by these OVERS."""
    walk = run_of(frozen(program), frozen(tree))
    return tuple(list(homes_in(walk, frozen(overs)).items()))


def spoilt_in_place(program, tree, overs):
    """Give the triples (use, made, found) of the uses that find another value in place."""
    walk = run_of(frozen(program), frozen(tree))
    homes, held, found = homes_in(walk, frozen(overs)), {}, []
    for event in range(len(walk.steps)):
        for value in walk.used_by(event):
            if held[homes[value]] != value:
                found.append((event, value, held[homes[value]]))
        if event in homes:
            held[homes[event]] = event
    return tuple(found)
