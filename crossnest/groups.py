"""Groups of numbers below a bound that go together, and how all numbers are parted into such."""


def groups_of(many, may_join):
    """List all ascending tuples of numbers below many that grow by numbers that may join."""
    found, waiting = [], [()]
    while waiting:
        group = waiting.pop()
        found.append(group)
        for at in range(group[-1] + 1 if group else 0, many):
            if may_join(group, at):
                waiting.append(group + (at,))
    return sorted(found)


def partings_of(many, may_join):
    """List all ways to part the numbers below many into groups that grow by numbers that may
    join; groups ascend, each being told by its least number ahead of the others."""
    found = [()]
    for at in range(many):
        more = []
        for groups in found:
            for number, group in enumerate(groups):
                if may_join(group, at):
                    more.append(groups[:number] + (group + (at,),) + groups[number + 1:])
            more.append(groups + ((at,),))
        found = more
    return found


def best_parting(many, may_join, cost):
    """Give of these ways that with the least cost, the fewest groups, and the least."""
    best = None
    for groups in partings_of(many, may_join):
        told = (cost(groups), len(groups), groups)
        if best is None or told < best:
            best = told
    return best[2]
