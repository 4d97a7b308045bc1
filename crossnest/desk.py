"""A desk: it carries out the lines of a text at a Board."""

from crossnest.board import Board
from crossnest.errors import (
    BadLine, CanNot, NoProcedure, NoRule, NothingDone, TooMany, Unfit,
)
from crossnest.forms import frozen, is_name
from crossnest.texts import part_words, program_lines
from crossnest.words import NOTHING, is_figures, pairs_read, parts_of_lot, word_of_tree

# How many numbers stand behind the first word of a request.
NUMBERS = {
    "choose": 1, "leave": 1, "strike": 2, "undo": 0, "redo": 0, "front": 0, "least": 0, "known": 0,
    "events": 0, "alive": 0, "failing": 0, "seen": 0, "parts": 0, "program": 0,
}
DONE = "done"


def is_request(thing):
    """Tell whether thing is a string that is a request."""
    if not isinstance(thing, str):
        return False
    words = thing.split(" ")
    if words[0] == "keep":
        if len(words) != 4 or not is_name(words[1]) or not is_figures(words[2]):
            return False
        return parts_of_lot(words[3]) is not None
    if len(words) != 1 + NUMBERS.get(words[0], len(words)):
        return False
    return all([is_figures(word) for word in words[1:]])


def path_word(path):
    """Give the word of a PATH."""
    path = frozen(path)
    return ".".join([str(place) for place in path]) if path else NOTHING


def event_word(event):
    """Give the word of an EVENT."""
    path, visit, step = frozen(event)
    return path_word(path) + "/" + str(visit) + "/" + str(step)


def together(words, between):
    """Give words as one, "-" if there are none."""
    return between.join(words) if words else NOTHING


def deed_done(board, words):
    """Do the deed of a request; tell what is told, None if it is no deed."""
    if words[0] == "keep":
        board.keep(words[1], int(words[2]), pairs_read(words[3]))
    elif words[0] == "leave":
        board.leave(int(words[1]))
    elif words[0] == "strike":
        board.strike(int(words[1]), int(words[2]))
    elif words[0] == "undo":
        board.undo()
    elif words[0] == "redo":
        board.redo()
    else:
        return None
    return DONE


def numbers_looked_at(board, word):
    """Give the set of numbers that a look tells, None if it tells none."""
    if word == "alive":
        return board.alive()
    if word == "failing":
        return board.failing()
    return board.seen() if word == "seen" else None


def look_told(board, word):
    """Tell what a look tells."""
    if word == "front":
        path = board.front()
        return "end" if path is None else path_word(path)
    if word == "least":
        return word_of_tree(board.least())
    if word == "known":
        return together([path_word(path) + ":" + str(rule) for path, rule in board.known()], " ")
    if word == "events":
        return together([event_word(event) for event in board.events()], " ")
    if word == "parts":
        return together([part_words(part) for part in board.parts()], " / ")
    if word == "program":
        return together(program_lines(board.program()), " / ")
    return together([str(number) for number in numbers_looked_at(board, word)], " ")


def carried_out(board, words):
    """Carry out a request; give what is told."""
    if words[0] == "choose":
        return together([event_word(event) for event in board.choose(int(words[1]))], " ")
    done = deed_done(board, words)
    return look_told(board, words[0]) if done is None else done


def reply(board, words):
    """Carry out a request; give what is told, also if it is refused."""
    try:
        return carried_out(board, words)
    except NoProcedure:
        refused = "NoProcedure"
    except NoRule:
        refused = "NoRule"
    except NothingDone:
        refused = "NothingDone"
    except CanNot:
        refused = "CanNot"
    except TooMany:
        refused = "TooMany"
    except Unfit:
        refused = "Unfit"
    return "refused " + refused


def replies(program, text):
    """List what is told for the lines of a text at a Board of the PROGRAM."""
    lines = text.split("\n") if text else []
    for number, line in enumerate(lines):
        if not is_request(line):
            raise BadLine(number)
    board = Board(program)
    return [reply(board, line.split(" ")) for line in lines]
