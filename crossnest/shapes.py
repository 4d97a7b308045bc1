"""PATTERNS and ENTRIES as values, and ENTRIES told by bits (see guesses)."""

from crossnest.forms import is_name_set, is_number, is_number_below, is_tuple_of


def is_member(thing):
    """Tell whether thing is a member of a PATTERN."""
    if not is_tuple_of(thing, 2) or not isinstance(thing[0], str):
        return False
    deed, guess = thing
    if guess is None:
        return deed == "make"
    return is_number_below(guess, 2) and (deed == "make" or deed == "use")


def has_pattern_shape(thing):
    """Tell whether thing is a PATTERN."""
    if not isinstance(thing, tuple) or not all([is_member(member) for member in thing]):
        return False
    made = []
    for deed, guess in thing:
        if deed == "make" and guess is not None:
            made.append(guess)
        elif deed == "use" and guess not in made:
            return False
    return made == [0] or made == [0, 1]


def many_guesses(pattern):
    """Tell how many guesses a PATTERN has."""
    return 2 if ("make", 1) in pattern else 1


def matched_behind(pattern, at, chosen, counts, used):
    """Tell how many members are matched behind a make if at were ahead.

    chosen is the guess whose value is made or None, counts tells whether the value made is of
    the LOT, used for each guess whether its value is used.
    """
    if at == len(pattern):
        return at
    deed, guess = pattern[at]
    if deed == "use":
        fits = used[guess]
    elif guess is None:
        fits = counts
    else:
        fits = chosen == guess
    return at + 1 if fits else at


def is_parting_of(thing, names, guesses):
    """Tell whether thing has for each guess a set of some of these NAMES, none in two of them."""
    if not is_tuple_of(thing, guesses) or not all([is_name_set(part) for part in thing]):
        return False
    told = [name for part in thing for name in part]
    return len(set(told)) == len(told) and all([name in names for name in told])


def is_row(thing, ins, outs, guesses, members):
    """Tell whether thing is shaped like the row of an ENTRY for a visit with these INS and OUTS."""
    if not is_tuple_of(thing, 3) or not is_tuple_of(thing[2], members + 1):
        return False
    if not all([is_number_below(number, members + 1) for number in thing[2]]):
        return False
    return is_parting_of(thing[0], ins, guesses) and is_parting_of(thing[1], outs, guesses)


def has_entry_shape(program, seat, pattern, thing):
    """Tell whether thing is shaped like an ENTRY for this SEAT."""
    guesses, many = many_guesses(pattern), seat[1]
    ins, outs, _ = program[seat[0]]
    if not is_tuple_of(thing, 2) or not is_tuple_of(thing[0], guesses):
        return False
    if not all([is_number(number) and -1 <= number < many for number in thing[0]]):
        return False
    if not is_tuple_of(thing[1], many):
        return False
    return all([
        is_row(thing[1][visit], ins[visit], outs[visit], guesses, len(pattern))
        for visit in range(many)
    ])


def told_entry(ports, result):
    """Give the ENTRY that a result tells."""
    made, rows = result
    told = []
    for ins, outs, moves in rows:
        at = tuple([ports.names_in(mask) for mask in ins])
        told.append((at, tuple([ports.names_in(mask) for mask in outs]), moves))
    return made, tuple(told)


def result_from(ports, entry):
    """Give the result that tells an ENTRY."""
    made, rows = entry
    told = []
    for ins, outs, moves in rows:
        at = tuple([ports.mask_of(names) for names in ins])
        told.append((at, tuple([ports.mask_of(names) for names in outs]), moves))
    return made, tuple(told)
