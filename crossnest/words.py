"""Words of texts: how numbers, NAMES, LOTS and TREES are written, and how they are read."""

from crossnest.forms import does_ascend, is_name, is_name_set

FIGURES = "0123456789"
NOTHING = "-"
MOST_NODES = 40
MOST_TREES = 3


def is_figures(word):
    """Tell whether a word is a number from 0 in figures, without a needless 0 ahead."""
    if word == "" or not all([sign in FIGURES for sign in word]):
        return False
    return word == "0" or word[0] != "0"


def names_word(names):
    """Give the word of a set of NAMES."""
    return ",".join(names) if names else NOTHING


def names_read(word):
    """Give the set of NAMES with this word, None if there is none."""
    if word == NOTHING:
        return ()
    names = tuple(word.split(","))
    return names if is_name_set(names) else None


def pair_word(number, name):
    """Give the word of a pair of a number and a NAME."""
    return str(number) + "." + name


def parts_of_pair(word):
    """Give the figures and the NAME of which the word of a pair is made, None if it is none."""
    figures, dot, name = word.partition(".")
    return (figures, name) if dot and is_figures(figures) and is_name(name) else None


def parts_of_lot(word):
    """List the figures and the NAMES of which the word of a set of pairs is made, None if it is
    none."""
    if word == NOTHING:
        return []
    parts = [parts_of_pair(pair) for pair in word.split(",")]
    if None in parts:
        return None
    # Of figures without a needless 0 those with fewer signs tell the lesser number.
    return parts if does_ascend([(len(part[0]),) + part for part in parts]) else None


def pairs_read(word):
    """Give the set of pairs with this word, None if there is none."""
    parts = parts_of_lot(word)
    return None if parts is None else tuple([(int(figures), name) for figures, name in parts])


def pairs_word(lot):
    """Give the word of a set of pairs."""
    return ",".join([pair_word(number, name) for number, name in lot]) if lot else NOTHING


def word_read_of(word):
    """Give the WORD with this word, None if there is none."""
    if is_name(word):
        return word
    parts = parts_of_pair(word)
    return None if parts is None else (int(parts[0]), parts[1])


def word_of_tree(tree):
    """Give the word of a TREE."""
    # No recursion: TREES that are returned may be very deep.
    parts, waiting = [], [tree]
    while waiting:
        item = waiting.pop()
        if isinstance(item, str):
            parts.append(item)
            continue
        parts.append(str(item[0]))
        if item[1]:
            waiting.append(")")
            for at, part in enumerate(reversed(item[1])):
                waiting.extend([part] if at == 0 else [",", part])
            waiting.append("(")
    return "".join(parts)


def tree_signs(word):
    """List the figures and the other signs of a word, in order."""
    found, at = [], 0
    while at < len(word):
        end = at
        while end < len(word) and word[end] in FIGURES:
            end += 1
        end = max(end, at + 1)
        found.append(word[at:end])
        at = end
    return found


def tree_read_of(word):
    """Give the TREE with this word, None if there is none."""
    # A frame is a list of a node's number and the TREES below it that are done; the outermost one
    # has the TREE itself.
    frames, is_due, nodes = [[None, []]], True, 0
    for sign in tree_signs(word):
        if is_due:
            nodes += 1
            if not is_figures(sign) or nodes > MOST_NODES or len(frames[-1][1]) == MOST_TREES:
                return None
            frames[-1][1].append((int(sign), ()))
            is_due = False
        elif sign == "(" and frames[-1][1][-1][1] == ():
            frames.append([frames[-1][1].pop()[0], []])
            is_due = True
        elif sign == "," and len(frames) > 1:
            is_due = True
        elif sign == ")" and len(frames) > 1:
            number, trees = frames.pop()
            frames[-1][1].append((number, tuple(trees)))
        else:
            return None
    return frames[0][1][0] if len(frames) == 1 and not is_due else None
