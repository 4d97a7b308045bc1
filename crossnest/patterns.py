"""Which RUNS take a PATTERN, with values of which pairs, and the least such RUN."""

from crossnest.checks import check_ports
from crossnest.errors import CanNot
from crossnest.forms import frozen
from crossnest.hunts import Showing, is_taken, pairs_taking, tree_taking
from crossnest.walks import run_of


def pattern_of(home, many):
    """Give the PATTERN of a home: what spoils it."""
    if home == "cell":
        return ("make", 0), ("make", 1), ("use", 0)
    if home == "stack":
        return ("make", 0), ("make", 1), ("use", 0), ("use", 1)
    if home == "queue":
        return ("make", 0), ("make", 1), ("use", 1), ("use", 0)
    if home == "round":
        between = tuple([("make", None) for _ in range(many)])
        return (("make", 0),) + between + (("use", 0),)
    raise CanNot()


def showing_of(program, lot, tree):
    """Give the makes and the uses of the values of the LOT in the RUN of the TREE."""
    return Showing(run_of(frozen(program), frozen(tree)), frozen(lot))


def shows(program, lot, tree, pattern, numbers):
    """Tell whether the RUN of the TREE takes the PATTERN at these numbers."""
    return showing_of(program, lot, tree).fits(frozen(pattern), frozen(numbers))


def shown_in(program, lot, tree, pattern):
    """Give the least numbers at which the RUN of the TREE takes the PATTERN, None without."""
    return showing_of(program, lot, tree).least_numbers(frozen(pattern), -1, ())


def takes(program, lot, pattern):
    """Tell whether some RUN takes the PATTERN."""
    program = frozen(program)
    check_ports(program)
    return is_taken(program, frozen(lot), frozen(pattern))


def least_run(program, lot, pattern):
    """Give the least TREE whose RUN takes the PATTERN and the least numbers, None without."""
    program, lot, pattern = frozen(program), frozen(lot), frozen(pattern)
    check_ports(program)
    tree = tree_taking(program, lot, pattern)
    return None if tree is None else (tree, shown_in(program, lot, tree, pattern))


def pairs_shown(program, lot, pattern):
    """Give the set of the tuples of pairs of values that some RUN has for the guesses."""
    program = frozen(program)
    check_ports(program)
    return tuple(pairs_taking(program, frozen(lot), frozen(pattern)))
