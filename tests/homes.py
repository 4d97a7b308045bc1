"""Homes kept by the rows of the document's table, MOMENT by MOMENT of a plain RUN."""


def plain_losses(run, alive, home, number, lot):
    """A dict with the MOMENT at which each value of the LOT is lost; alive has the values that are
    alive at each MOMENT, for those homes that ask it."""
    values, lost = [], {}

    def lose(value, moment):
        lost.setdefault(value, moment)

    for at, event in enumerate(run.events):
        used = [value for value in event["uses"] if value in values]
        for value in values:
            if home == "stack" and any(other < value for other in used):
                lose(value, at + 1)
            if home == "queue" and any(other > value for other in used):
                lose(value, at + 1)
        if event["pair"] in lot:
            if home in ("cell", "round"):
                for behind, value in enumerate(reversed(values)):
                    if behind + 1 >= (number or 1):
                        lose(value, at + 1)
            if home == "homes" and at in alive[at + 1]:
                others = [value for value in values if value not in lost and value in alive[at + 1]]
                if len(others) >= number:
                    lose(min(others), at + 1)
            values.append(at)
        for value in values:
            if home == "region" and any(
                    other in alive[value + 1] and other not in alive[at + 1] for other in values if other < value):
                lose(value, at + 1)
            if home == "order" and any(other not in alive[at + 1] for other in values if other > value):
                lose(value, at + 1)
    return lost


def plain_kept(run, lost, lot, moment):
    """The values of the LOT that are made by the MOMENT and not lost at it."""
    return tuple(
        at for at in range(moment)
        if run.events[at]["pair"] in lot and (at not in lost or lost[at] > moment)
    )


def plain_misread(run, lost, moment):
    """The pairs (event, value) of uses of what is lost by then, by EVENTS ahead of the MOMENT."""
    return {
        (at, value) for at in range(moment) for value in run.events[at]["uses"]
        if value in lost and lost[value] <= at
    }


def parted(chance, pairs, homes, most=6):
    """Some of all ways to give these pairs homes: parts as of a LAYOUT."""
    many = min(len(pairs), chance.randint(1, most))
    lots = [[] for _ in range(many)]
    pairs = list(pairs)
    chance.shuffle(pairs)
    for at, pair in enumerate(pairs):
        lots[at if at < many else chance.randrange(many)].append(pair)
    found = []
    for lot in lots:
        home = chance.choice(homes)
        number = chance.randint(1, 3) if home in ("round", "homes") else 0
        found.append((home, number, tuple(sorted(lot))))
    return tuple(found)
