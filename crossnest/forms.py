"""What numbers, NAMES and sets are, and lists in the place of tuples."""


def has_list(value):
    """Tell whether a list stands in value, at any depth."""
    # No recursion: TREES that are returned may be very deep.
    waiting = [value]
    while waiting:
        item = waiting.pop()
        if isinstance(item, list):
            return True
        if isinstance(item, tuple):
            waiting.extend(item)
    return False


def frozen(value):
    """Give value with tuples in the place of all its lists."""
    if not has_list(value):
        return value
    frames = [[[value], []]]
    while True:
        source, done = frames[-1]
        if len(done) < len(source):
            item = source[len(done)]
            if isinstance(item, (list, tuple)):
                frames.append([item, []])
            else:
                done.append(item)
        elif len(frames) == 1:
            return done[0]
        else:
            frames.pop()
            frames[-1][1].append(tuple(done))


def is_number(thing):
    """Tell whether thing is an int that is not a bool."""
    return isinstance(thing, int) and not isinstance(thing, bool)


def is_number_below(thing, many):
    """Tell whether thing is a number from 0 that is less than many."""
    return is_number(thing) and 0 <= thing < many


def is_name(thing):
    """Tell whether thing is a NAME."""
    if not isinstance(thing, str) or not 1 <= len(thing) <= 8:
        return False
    return all(["a" <= letter <= "z" for letter in thing])


def is_tuple_of(thing, many):
    """Tell whether thing is a tuple of so many parts."""
    return isinstance(thing, tuple) and len(thing) == many


def does_ascend(parts):
    """Tell whether each of these parts is less than the next one."""
    return all([parts[at] < parts[at + 1] for at in range(len(parts) - 1)])


def is_name_set(thing):
    """Tell whether thing is an ascending tuple of NAMES."""
    if not isinstance(thing, tuple) or not all([is_name(name) for name in thing]):
        return False
    return does_ascend(thing)


def is_named(thing):
    """Tell whether thing is a pair of a number from 0 and a NAME."""
    return is_tuple_of(thing, 2) and is_number(thing[0]) and thing[0] >= 0 and is_name(thing[1])


def is_pair_set(thing):
    """Tell whether thing is a set of pairs of a number from 0 and a NAME."""
    if not isinstance(thing, tuple) or not all([is_named(pair) for pair in thing]):
        return False
    return does_ascend(thing)
