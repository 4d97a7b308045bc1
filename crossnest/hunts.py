"""Which TREES have RUNS that take a PATTERN, and at which EVENTS."""

from crossnest.growth import Growth, Sorted
from crossnest.plans import Plans
from crossnest.shapes import many_guesses
from crossnest.spanning import Counting
from crossnest.trails import Search, Tracing


def search_for(pattern, lot, kept):
    """Give the Search for a PATTERN; the values of guesses that are not kept are any values."""
    pairs = {pair: True for pair in lot}
    aims = []
    for deed, guess in pattern:
        number = kept.index(guess) if guess in kept else None
        aims.append((deed, number, pairs))
    return Search(aims, len(kept))


def used_guesses(pattern):
    """List the guesses whose values are used."""
    return [guess for guess in range(many_guesses(pattern)) if ("use", guess) in pattern]


def first_tree(growth):
    """Give the least TREE in whose RUN all aims of the search that grows are met, None if there
    is none."""
    kind = growth.kind
    key, seen = kind.start_key(), 0
    growth.ask(key)
    while growth.step():
        results = list(growth.found[key].items())
        found = [told for result, told in results[seen:] if kind.is_met(result)]
        seen = len(results)
        if found:
            return min(found)[1]
    return None


def makes_between(search):
    """Tell how many makes of any values stand between a make and the one use of its value;
    None if the aims are others."""
    deeds = [(deed, guess) for deed, guess, _ in search.aims]
    many = len(deeds) - 2
    if many < 0 or deeds != [("make", 0)] + [("make", None)] * many + [("use", 0)]:
        return None
    return many


def kind_for(program, lot, pattern):
    """Give the kind of results that tells which RUNS take the PATTERN."""
    search = search_for(pattern, lot, used_guesses(pattern))
    many = makes_between(search)
    if many is None:
        return Tracing(Plans(program), search)
    return Counting(Plans(program), lot, many, False)


def is_taken(program, lot, pattern):
    """Tell whether some RUN takes the PATTERN."""
    return first_tree(Growth(program, kind_for(program, lot, pattern))) is not None


def tree_taking(program, lot, pattern):
    """Give the least TREE whose RUN takes the PATTERN, None if there is none."""
    return first_tree(Sorted(program, kind_for(program, lot, pattern)))


class Naming(Tracing):
    """A search that tells for each guess the pair of which its value is."""

    def first_extra(self):
        """Give the pairs of the guesses: none is known."""
        return tuple([None for _ in range(self.search.guesses)])

    def births(self, trip, act, guess):
        """List the Trips in which this make makes the value of a guess."""
        if trip.extra[guess] is not None:
            return []
        found = super().births(trip, act, guess)
        for more in found:
            more.extra = trip.extra[:guess] + (act[3],) + trip.extra[guess + 1:]
        return found

    def meet(self, state, result):
        """Choose a result for the callee that is waited for."""
        told = []
        for pair, other in zip(state[9], result[2]):
            if pair is not None and other is not None:
                return None
            told.append(other if pair is None else pair)
        place, more = super().meet(state, result)
        return place, more[:9] + (tuple(told),)


def results_met(program, kind):
    """List the results of the start that meet all aims."""
    growth, key = Growth(program, kind), kind.start_key()
    growth.ask(key)
    growth.grow()
    return [result for result in growth.found[key] if kind.is_met(result)]


def pairs_taking(program, lot, pattern):
    """List the tuples of pairs, one for each guess, values of which some RUN has for them."""
    search = search_for(pattern, lot, list(range(many_guesses(pattern))))
    many = makes_between(search)
    if many is None:
        results = results_met(program, Naming(Plans(program), search))
        return sorted({result[2]: True for result in results})
    results = results_met(program, Counting(Plans(program), lot, many, True))
    return sorted({(result[2][0],): True for result in results})


def first_above(numbers, bound):
    """Give the first of these ascending numbers that is above a bound, None if there is none."""
    low, high = 0, len(numbers)
    while low < high:
        middle = (low + high) // 2
        if numbers[middle] > bound:
            high = middle
        else:
            low = middle + 1
    return numbers[low] if low < len(numbers) else None


class Showing:
    """The makes and the uses of the values of a LOT in a RUN."""

    def __init__(self, walk, lot):
        self.made = walk.values_in(lot)
        self.users = walk.users_of_values()

    def numbers_for(self, member, values):
        """List the EVENTS that fit a member, which makes the value of no guess."""
        if member[0] == "make":
            return self.made
        return self.users.get(values[member[1]], [])

    def least_numbers(self, pattern, ahead, values):
        """Give the least numbers above that one for these members, None if there are none."""
        numbers = []
        for at, member in enumerate(pattern):
            if member[0] == "make" and member[1] is not None:
                for value in self.made:
                    if value > ahead:
                        rest = self.least_numbers(pattern[at + 1:], value, values + (value,))
                        if rest is not None:
                            return tuple(numbers) + (value,) + rest
                return None
            ahead = first_above(self.numbers_for(member, values), ahead)
            if ahead is None:
                return None
            numbers.append(ahead)
        return tuple(numbers)

    def fits(self, pattern, numbers):
        """Tell whether the RUN takes the PATTERN at these numbers."""
        if len(numbers) != len(pattern):
            return False
        values, ahead = (), -1
        for member, number in zip(pattern, numbers):
            if number <= ahead or number not in self.numbers_for(member, values):
                return False
            if member[0] == "make" and member[1] is not None:
                values = values + (number,)
            ahead = number
        return True
