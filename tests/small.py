"""Programs made by chance with all their small TREES, for tests of what holds for all RUNS."""

import random

from crossnest.programs import pairs_of
from tests.plain import PlainRun, handing_program, plain_trees
from tests.test_trees import clean_programs

# Two visits, by which values are handed on and back.
HANDING = None

KINDS = (
    # With rings and hands, without hands, with one visit, with three.
    dict(procedures=3, rules=2, ins=2, outs=2, visits=2, callees=2, hands=0.4),
    dict(procedures=3, rules=2, ins=2, outs=2, visits=2, callees=2, hands=0.0),
    dict(procedures=3, rules=2, ins=2, outs=2, visits=1, callees=2, hands=0.5),
    dict(procedures=2, rules=1, ins=1, outs=1, visits=3, callees=3, hands=0.4),
    HANDING,
)
# Within the bounds of the points about how many are alive.
SLIM = (
    dict(procedures=2, rules=1, ins=2, outs=2, visits=2, callees=2, hands=0.4),
    dict(procedures=3, rules=1, ins=2, outs=2, visits=2, callees=2, hands=0.2),
    dict(procedures=3, rules=1, ins=2, outs=2, visits=1, callees=3, hands=0.3),
    dict(procedures=2, rules=2, ins=1, outs=1, visits=2, callees=2, hands=0.6),
    HANDING,
)


def programs_of(seeds, kind):
    """Pairs of a seed and a clean PROGRAM."""
    if kind is HANDING:
        return [(seed, handing_program(seed)) for seed in seeds]
    return clean_programs(seeds, **kind)


def small_trees(program, most=7, many=150):
    """All TREES of the start with at most so many nodes, by size: as many sizes as come to few."""
    trees = plain_trees(program, 0, most)
    while len(trees) > many:
        most -= 1
        trees = plain_trees(program, 0, most)
    return most, trees


def small_programs(seeds, kinds=KINDS, rules=8, names=4):
    """Triples of a PROGRAM, a LOT of it, and its small RUNS: pairs of a TREE and a PlainRun;
    and the number of nodes up to which these are all."""
    for number, kind in enumerate(kinds):
        for seed, program in programs_of(seeds, kind):
            if sum(len(rows) for _, _, rows in program) > rules:
                continue
            most, trees = small_trees(program)
            chance = random.Random(1000 * number + seed)
            pairs = pairs_of(program)
            many = min(len(pairs), chance.randint(1, names))
            lot = tuple(sorted(chance.sample(pairs, many)))
            yield program, lot, [(tree, PlainRun(program, tree)) for tree in trees], most


def error_of(call, *given, **named):
    """The error that a call raises, None if there is none."""
    try:
        call(*given, **named)
    except (LookupError, ValueError) as error:
        return error
    return None


def error_told(call, *given, **named):
    """The name of the class of this error, and what it keeps."""
    error = error_of(call, *given, **named)
    return None if error is None else (type(error).__name__, *vars(error).values())
