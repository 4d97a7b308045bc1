"""What shows, in a RUN as far as it has gone (see goings), that a home does not serve."""

from crossnest.alive import most_at_once
from crossnest.hunts import Showing
from crossnest.layouts import LASTING, PATTERNED
from crossnest.patterns import pattern_of


def is_pattern_seen(going, pattern, lot):
    """Tell whether the EVENTS behind take a PATTERN."""
    showing = Showing(going.walk, lot)
    showing.made = [value for value in showing.made if value < going.many]
    showing.users = going.users_by(going.many)
    return showing.least_numbers(pattern, -1, ()) is not None


def is_opening(home, event, other, ends):
    """Tell whether "region" or "order" is spoilt by two values, ends being their last MOMENTS."""
    last, end = ends
    if last is None or last <= other:
        return False
    if home == "region":
        return end is not None and end > last
    return end is None or end < last


def is_opening_seen(going, home, lasts):
    """Tell whether there is a MOMENT with no more EVENTS by which "region" or "order" is spoilt."""
    for event, last in lasts:
        for other, end in lasts:
            if event < other and is_opening(home, event, other, (last, end)):
                dead = last if home == "region" else end
                if (other if dead is None else dead) < going.many:
                    return True
    return False


def is_seen(going, part):
    """Tell whether a PAPER against the home of a part can be told out of the EVENTS behind."""
    home, number, lot = part
    if home in PATTERNED:
        return is_pattern_seen(going, pattern_of(home, number), lot)
    if home == "heap":
        return False
    going.check_passings()
    lasts = [
        (value, going.last_of(value)) for value in going.walk.values_in(lot) if value < going.many
    ]
    if home in LASTING:
        return is_opening_seen(going, home, lasts)
    # No later MOMENT counts: RULES are not known there yet.
    shown = [
        (value, last if last is None else min(last, going.many)) for value, last in lasts
    ]
    return most_at_once(shown)[0] > number
