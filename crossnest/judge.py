"""One judge: what is claimed of homes, and RUNS against it."""

from crossnest.alives import most_alive
from crossnest.checks import own_names
from crossnest.errors import Unfit
from crossnest.forms import frozen, is_number, is_pair_set, is_tuple_of
from crossnest.harms import askings, heard_in, hung_on
from crossnest.hearing import tree_hearing
from crossnest.layouts import homes_paper, is_paper
from crossnest.leasts import fits_procedure
from crossnest.programs import is_clean, is_program
from crossnest.queues import can_be_order, can_be_queue, nesting, outlasting
from crossnest.rounds import can_be_round, is_round_clash, round_clash
from crossnest.stacks import can_be_region, can_be_stack, crossing, overstay
from crossnest.walks import run_of

COUNTED = ("round", "homes")
WORDS = ("cell", "stack", "queue", "region", "order", "deaf")


def has_claim_words(thing):
    """Tell whether thing begins with the word of a CLAIM, and has what this asks behind the LOT."""
    if is_tuple_of(thing, 3):
        return isinstance(thing[0], str) and thing[0] in WORDS
    if not is_tuple_of(thing, 4) or not isinstance(thing[0], str) or thing[0] not in COUNTED:
        return False
    return is_number(thing[3]) and thing[3] >= (1 if thing[0] == "round" else 0)


def is_claim(thing):
    """Tell whether thing is a CLAIM."""
    if not has_claim_words(thing) or not is_program(thing[1]) or not is_clean(thing[1]):
        return False
    if not is_pair_set(thing[2]):
        return False
    program = thing[1]
    return all([
        number < len(program) and name in own_names(program[number]) for number, name in thing[2]
    ])


def checked(claim):
    """Give the parts of a CLAIM: its word, PROGRAM, LOT and number; raise Unfit if it is none."""
    claim = frozen(claim)
    if not is_claim(claim):
        raise Unfit()
    if claim[0] == "cell":
        return claim + (1,)
    return claim if claim[0] in COUNTED else claim + (0,)


def deaf_tree(program, lot):
    """Give a TREE in whose RUN a value of the LOT is heard, None if there is none."""
    for pair in lot:
        tree = tree_hearing(program, pair)
        if tree is not None:
            return tree
    return None


def stands(claim):
    """Tell whether the CLAIM is so."""
    word, program, lot, many = checked(claim)
    if word == "cell" or word == "round":
        return can_be_round(program, lot, many)
    if word == "stack":
        return can_be_stack(program, lot)
    if word == "queue":
        return can_be_queue(program, lot)
    if word == "region":
        return can_be_region(program, lot)
    if word == "order":
        return can_be_order(program, lot)
    if word == "homes":
        most = most_alive(program, lot)
        return most is not None and most <= many
    return deaf_tree(program, lot) is None


def round_paper(program, lot, many):
    """Give a PAPER against a round, None if it serves."""
    found = round_clash(program, lot, many)
    if found is None:
        return None
    tree, made, use = found
    behind = [value for value in run_of(program, tree).values_in(lot) if value > made]
    return tree, (made, behind[many - 1], use)


def deaf_paper(program, lot):
    """Give a PAPER that shows a value of the LOT that is heard, None if none ever is."""
    tree = deaf_tree(program, lot)
    if tree is None:
        return None
    walk = run_of(program, tree)
    heard = heard_in(walk)
    value = [other for other in walk.values_in(lot) if other in heard][0]
    asked = [
        other for event in askings(walk) for other in walk.used_by(event)
        if value in hung_on(walk, [other])
    ]
    return tree, (value, asked[0])


def paper_for(word, program, lot, many):
    """Give a PAPER against a CLAIM of these parts, None if it stands."""
    if word == "cell" or word == "round":
        return round_paper(program, lot, many)
    if word == "stack":
        return crossing(program, lot)
    if word == "queue":
        return nesting(program, lot)
    if word == "region":
        return overstay(program, lot)
    if word == "order":
        return outlasting(program, lot)
    return homes_paper(program, many, lot) if word == "homes" else deaf_paper(program, lot)


def paper_against(claim):
    """Give a PAPER against the CLAIM, None if it stands."""
    word, program, lot, many = checked(claim)
    return paper_for(word, program, lot, many)


def is_round_paper(program, lot, many, thing):
    """Tell whether thing is a PAPER against a round."""
    if not is_tuple_of(thing, 2) or not is_tuple_of(thing[1], 3):
        return False
    made, last, use = thing[1]
    if not is_round_clash(program, lot, many, (thing[0], made, use)) or not is_number(last):
        return False
    behind = [value for value in run_of(program, thing[0]).values_in(lot) if value > made]
    return behind[many - 1] == last


def is_deaf_paper(program, lot, thing):
    """Tell whether thing is a PAPER that shows a value of the LOT that is heard."""
    if not is_tuple_of(thing, 2) or not is_tuple_of(thing[1], 2):
        return False
    value, other = thing[1]
    if not is_number(value) or not is_number(other) or not fits_procedure(program, 0, thing[0]):
        return False
    walk = run_of(program, thing[0])
    asked = [used for event in askings(walk) for used in walk.used_by(event)]
    if value not in walk.values_in(lot) or other not in asked:
        return False
    return value in hung_on(walk, [other])


def is_paper_against(claim, thing):
    """Tell whether thing is a PAPER against the CLAIM."""
    word, program, lot, many = checked(claim)
    if word == "round":
        return is_round_paper(program, lot, many, thing)
    if word == "deaf":
        return is_deaf_paper(program, lot, thing)
    return is_paper(program, word, many, lot, thing)


def first_fallen(claims):
    """Give the number of the first CLAIM that does not stand and a PAPER against it, as a pair;
    None if all stand."""
    parts = [checked(claim) for claim in frozen(claims)]
    for number, (word, program, lot, many) in enumerate(parts):
        paper = paper_for(word, program, lot, many)
        if paper is not None:
            return number, paper
    return None
