"""LAYOUTS: which homes the values of a PROGRAM have, and RUNS in which a home does not serve."""

from crossnest.alive import chances_of
from crossnest.alives import alive_spot, most_alive
from crossnest.checks import check_ports, pair_of
from crossnest.errors import CanNot, Unfit
from crossnest.forms import frozen, is_number, is_pair_set, is_tuple_of
from crossnest.hunts import Showing, is_taken
from crossnest.openings import least_moment
from crossnest.patterns import least_run, pattern_of
from crossnest.piles import numbers_of
from crossnest.queues import is_outlasting
from crossnest.rounds import least_round
from crossnest.stacks import is_overstay
from crossnest.walks import run_of

# What counts its places, what has a PATTERN, and what is let go by what is alive.
COUNTED = ("round", "homes")
PATTERNED = ("cell", "round", "stack", "queue")
LASTING = ("region", "order")
HOMES = ("cell", "round", "stack", "queue", "region", "order", "homes", "heap")
MOST_PARTS = 6
MOST_PLACES = 6


def pairs_made(program):
    """List the ORIGINS of a PROGRAM, ascending."""
    found = {}
    for at, (_, _, rules) in enumerate(program):
        for rule in rules:
            for step in [step for row in rule[1] for step in row if step[0] == "make"]:
                found[pair_of(at, rule, step[1])] = True
    return sorted(found)


def origins(program):
    """Give the set of the ORIGINS."""
    return tuple(pairs_made(frozen(program)))


def is_home(home, number):
    """Tell whether a part can have this home with this number."""
    if not isinstance(home, str) or home not in HOMES or not is_number(number):
        return False
    return 1 <= number <= MOST_PLACES if home in COUNTED else number == 0


def is_part(thing):
    """Tell whether thing is a triple of a home, its number, and a set, not (), of pairs."""
    if not is_tuple_of(thing, 3) or not is_home(thing[0], thing[1]):
        return False
    return is_pair_set(thing[2]) and len(thing[2]) > 0


def has_layout(program, thing):
    """Tell whether thing is a LAYOUT of the PROGRAM."""
    if not isinstance(thing, tuple) or len(thing) > MOST_PARTS:
        return False
    if not all([is_part(part) for part in thing]):
        return False
    return sorted([pair for part in thing for pair in part[2]]) == pairs_made(program)


def is_layout(program, thing):
    """Tell whether thing is a LAYOUT of the PROGRAM."""
    return has_layout(frozen(program), thing)


def does_serve(program, home, number, lot):
    """Tell whether the home serves the LOT."""
    if home in PATTERNED:
        check_ports(program)
        return not is_taken(program, lot, pattern_of(home, number))
    if home in LASTING:
        return least_moment(program, lot, home) is None
    if home == "homes":
        most = most_alive(program, lot)
        return most is not None and most <= number
    return True


def serves(program, home, number, lot):
    """Tell whether the home serves the LOT."""
    return does_serve(frozen(program), home, number, frozen(lot))


def values_alive(program, tree, lot, moment):
    """List the values of the LOT that are alive at a MOMENT."""
    lasts = chances_of(program, tree).lasts_in(lot)
    return [
        value for value, last in lasts if value < moment and last is not None and last >= moment
    ]


def homes_paper(program, number, lot):
    """Give a PAPER against so many homes given out as one goes, None if they serve."""
    spot = alive_spot(program, lot, number + 1)
    if spot is None:
        return None
    tree, moment = spot
    return tree, tuple(values_alive(program, tree, lot, moment)[:number + 1]) + (moment,)


def paper_of(program, home, number, lot):
    """Give a PAPER against a home, None if it serves."""
    if home in PATTERNED:
        return least_run(program, lot, pattern_of(home, number))
    if home in LASTING:
        return least_moment(program, lot, home)
    return homes_paper(program, number, lot) if home == "homes" else None


def spoiling(program, home, number, lot):
    """Give a PAPER against the home."""
    found = paper_of(frozen(program), home, number, frozen(lot))
    if found is None:
        raise CanNot()
    return found


def is_homes_paper(program, number, lot, thing):
    """Tell whether thing is a PAPER against so many homes given out as one goes."""
    numbers = numbers_of(program, thing, number + 2)
    if numbers is None:
        return False
    walk, moment = run_of(program, thing[0]), numbers[-1]
    values = walk.values_in(lot)
    if moment > len(walk.steps) or not all([value in values for value in numbers[:-1]]):
        return False
    alive = values_alive(program, thing[0], lot, moment)
    return all([value in alive for value in numbers[:-1]])


def is_paper(program, home, number, lot, thing):
    """Tell whether thing is a PAPER against the home."""
    if home in PATTERNED:
        pattern = pattern_of(home, number)
        numbers = numbers_of(program, thing, len(pattern))
        if numbers is None:
            return False
        return Showing(run_of(program, thing[0]), lot).fits(pattern, numbers)
    if home == "region":
        return is_overstay(program, lot, thing)
    if home == "order":
        return is_outlasting(program, lot, thing)
    return home == "homes" and is_homes_paper(program, number, lot, thing)


def is_spoiling(program, home, number, lot, thing):
    """Tell whether thing is a PAPER against the home."""
    return is_paper(frozen(program), home, number, frozen(lot), thing)


def failing(program, layout):
    """Give the set of the numbers of the parts whose home does not serve."""
    program = frozen(program)
    return tuple([
        at for at, (home, number, lot) in enumerate(frozen(layout))
        if not does_serve(program, home, number, lot)
    ])


def cheapest_home(program, lot):
    """Give the first pair (home, number) of the row that serves."""
    check_ports(program)
    many = least_round(program, lot)
    if many == 1:
        return "cell", 0
    if many is not None and many <= MOST_PLACES:
        return "round", many
    for home in ("stack", "queue", "region", "order"):
        if does_serve(program, home, 0, lot):
            return home, 0
    most = most_alive(program, lot)
    if most is not None and most <= MOST_PLACES:
        return "homes", max(1, most)
    return "heap", 0


def cheapest(program, lot):
    """Give the first pair (home, number) of the row that serves the LOT."""
    return cheapest_home(frozen(program), frozen(lot))


def best_layout(program, lots):
    """Give the LAYOUT with these LOTS, each with its cheapest home."""
    program, lots = frozen(program), frozen(lots)
    if not has_layout(program, tuple([("heap", 0, lot) for lot in lots])):
        raise Unfit()
    return tuple([cheapest_home(program, lot) + (lot,) for lot in lots])


def cost(layout):
    """Give how many parts are a heap, how many are let go in some order, and how many places the
    others have together."""
    heaps, ordered, places = 0, 0, 0
    for home, number, _ in frozen(layout):
        if home == "heap":
            heaps += 1
        elif home == "cell":
            places += 1
        elif home in COUNTED:
            places += number
        else:
            ordered += 1
    return heaps, ordered, places
