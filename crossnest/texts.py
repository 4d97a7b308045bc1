"""Texts of PROGRAMS and of LAYOUTS, and the words in them."""

from crossnest.errors import BadLine, Unfit
from crossnest.forms import frozen, is_name
from crossnest.programs import is_program
from crossnest.reading import ProgramLines
from crossnest.words import (
    is_figures, names_word, pair_word, pairs_read, pairs_word, tree_read_of, word_of_tree,
    word_read_of,
)


def word_text(word):
    """Give the word of a WORD."""
    word = frozen(word)
    return word if isinstance(word, str) else pair_word(word[0], word[1])


def lot_word(lot):
    """Give the word of a LOT."""
    return pairs_word(frozen(lot))


def tree_word(tree):
    """Give the word of a TREE."""
    return word_of_tree(frozen(tree))


def step_words(step):
    """List the words of a STEP."""
    if step[0] == "go":
        return ["go", str(step[1])]
    words = step[2] if step[0] == "make" else (step[2],)
    return [step[0], word_text(step[1])] + [word_text(word) for word in words]


def program_lines(program):
    """List the lines of the text of a PROGRAM."""
    lines = []
    for ins, outs, rules in program:
        lines.append(["procedure"])
        for visit in range(len(ins)):
            lines.append(["visit", names_word(ins[visit]), names_word(outs[visit])])
        for callees, rows in rules:
            lines.append(["rule"] + [str(callee) for callee in callees])
            for row in rows:
                lines.append(["row"])
                lines.extend([step_words(step) for step in row])
    return [" ".join(words) for words in lines]


def program_text(program):
    """Give the text of a PROGRAM."""
    return "".join([line + "\n" for line in program_lines(frozen(program))])


def part_words(part):
    """Give the words of a part of a LAYOUT, as its line has them behind the first one."""
    home, number, lot = part
    return home + " " + str(number) + " " + pairs_word(lot)


def layout_text(layout):
    """Give the text of a LAYOUT."""
    return "".join(["home " + part_words(part) + "\n" for part in frozen(layout)])


def word_read(word):
    """Give the WORD with this word, None if there is none."""
    return word_read_of(word)


def lot_read(word):
    """Give the set of pairs of a number and a NAME with this word, None if there is none."""
    return pairs_read(word)


def tree_read(word):
    """Give the TREE with this word, None if there is none."""
    return tree_read_of(word)


def lines_of(text):
    """List the lines of a text: a line break at its end begins no further one."""
    lines = text.split("\n")
    if lines[-1] == "":
        lines.pop()
    return lines


def read_program(text):
    """Give the PROGRAM with this text."""
    lines, reading = lines_of(text), ProgramLines()
    for number, line in enumerate(lines):
        if not reading.takes(line.split(" ")):
            raise BadLine(number)
    if not reading.may_end():
        raise BadLine(len(lines))
    found = reading.told()
    if not is_program(found):
        raise Unfit()
    return found


def part_read(words):
    """Give the triple that the words of a line of a LAYOUT tell, None if they tell none."""
    if len(words) != 4 or words[0] != "home" or not is_name(words[1]) or not is_figures(words[2]):
        return None
    lot = pairs_read(words[3])
    return None if lot is None else (words[1], int(words[2]), lot)


def read_layout(text):
    """Give the tuple of triples (home, number, lot) with this text."""
    found = []
    for number, line in enumerate(lines_of(text)):
        part = part_read(line.split(" "))
        if part is None:
            raise BadLine(number)
        found.append(part)
    return tuple(found)
