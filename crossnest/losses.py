"""When the values that are kept in a home are lost there, MOMENT by MOMENT.

values are those of a LOT, ascending, users tells of each one the EVENTS that use it, lasts its last
MOMENT (None if it is dead right behind its make). What is told is a dict: for each value that is
lost the first MOMENT at which it is.
"""


def lost_in_round(values, number):
    """Tell what is lost in a round of so many cells."""
    return {
        value: values[at + number] + 1 for at, value in enumerate(values) if at + number < len(values)
    }


def least_moments(found):
    """Give, of each value, the least of the MOMENTS found for it, if there are any."""
    return {value: min(moments) for value, moments in found.items() if moments}


def lost_on_stack(values, users):
    """Tell what is lost on a stack: by uses of values made ahead."""
    return least_moments({
        value: [
            event + 1 for other in values[:at] for event in users.get(other, []) if event > value
        ]
        for at, value in enumerate(values)
    })


def lost_in_queue(values, users):
    """Tell what is lost in a queue: by uses of values made behind."""
    return least_moments({
        value: [event + 1 for other in values[at + 1:] for event in users.get(other, [])]
        for at, value in enumerate(values)
    })


def lost_in_region(values, lasts):
    """Tell what is lost in a region: by the death of values that lie below."""
    return least_moments({
        value: [
            lasts[other] + 1 for other in values[:at]
            if lasts[other] is not None and lasts[other] > value
        ]
        for at, value in enumerate(values)
    })


def lost_in_order(values, lasts):
    """Tell what is lost in an order: by the death of values made behind."""
    return least_moments({
        value: [
            1 + (other if lasts[other] is None else lasts[other]) for other in values[at + 1:]
        ]
        for at, value in enumerate(values)
    })


def lost_from_homes(values, lasts, number):
    """Tell what is lost from so many homes given out as one goes: the eldest, if none is free."""
    found = {}
    for at, value in enumerate(values):
        others = [
            other for other in values[:at]
            if other not in found and lasts[other] is not None and lasts[other] > value
        ]
        if lasts[value] is not None and len(others) >= number:
            found[others[0]] = value + 1
    return found


def lost_from(home, number, values, users, lasts):
    """Tell what is lost from a home."""
    if home == "cell":
        return lost_in_round(values, 1)
    if home == "round":
        return lost_in_round(values, number)
    if home == "stack":
        return lost_on_stack(values, users)
    if home == "queue":
        return lost_in_queue(values, users)
    if home == "region":
        return lost_in_region(values, lasts)
    if home == "order":
        return lost_in_order(values, lasts)
    return lost_from_homes(values, lasts, number) if home == "homes" else {}
