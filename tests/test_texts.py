"""Point [26]: texts, and what their readers tell."""

import random
import re
import unittest

from crossnest.errors import BadLine
from crossnest.layouts import origins
from crossnest.programs import is_program, pairs_of
from crossnest.texts import (
    layout_text, lot_read, lot_word, program_text, read_layout, read_program, tree_read, tree_word,
    word_read, word_text,
)
from crossnest.trees import nodes
from tests.homes import parted
from tests.plain import made_program
from tests.samples import (
    AGAIN, ASKED, BOTH, BUSH, CHAIN, CROWDED, DEEP, ENDLESS, FIVE, LENT, ONCE, TWICE, chain_of,
)
from tests.small import error_of, error_told
from tests.test_engine import ALL

NAME, NUMBER = "[a-z]{1,8}", "(?:0|[1-9][0-9]*)"
WORD = f"(?:{NUMBER}[.])?{NAME}"
SETS = f"(?:-|{NAME}(?:,{NAME})*)"
PAIRS = f"(?:-|{NUMBER}[.]{NAME}(?:,{NUMBER}[.]{NAME})*)"
LINES = {
    "procedure": "procedure", "visit": f"visit {SETS} {SETS}", "rule": f"rule(?: {NUMBER}){{0,3}}", "row": "row",
    "step": f"(?:make {WORD}(?: {WORD})*|hand {WORD} {WORD}|go {NUMBER})",
}
SIGNS = " !,-./0129:(abcuz~\n)"
BIG = int("9" * 1000)


def ascends(parts):
    return all(one < other for one, other in zip(parts, parts[1:]))


def kind_of(line):
    """The kind of a line of a PROGRAM's text, None if it is none."""
    for kind, form in LINES.items():
        if re.fullmatch(form, line):
            sets = [word.split(",") for word in line.split(" ")[1:] if word != "-"] if kind == "visit" else []
            return kind if all(ascends(names) for names in sets) else None
    return None


def plain_bad_line(text):
    """The number of the first line that can not stand there, None if all can."""
    lines = text.split("\n")
    if lines[-1] == "":
        lines = lines[:-1]
    visits = rules = rows = 0
    begun = False
    for number, line in enumerate(lines):
        kind = kind_of(line)
        whole = rules > 0 and rows == visits
        fits = {
            "procedure": whole or not begun, "visit": begun and visits < 3 and rules == 0,
            "rule": visits > 0 and (rules == 0 or whole), "row": rules > 0 and rows < visits, "step": rows > 0,
        }.get(kind, False)
        if not fits:
            return number
        if kind == "procedure":
            begun, visits, rules, rows = True, 0, 0, 0
        elif kind == "visit":
            visits += 1
        elif kind == "rule":
            rules, rows = rules + 1, 0
        elif kind == "row":
            rows += 1
    return None if rules > 0 and rows == visits else len(lines)


def plain_lot(word):
    if not re.fullmatch(PAIRS, word):
        return None
    pairs = () if word == "-" else tuple((int(one.split(".")[0]), one.split(".")[1]) for one in word.split(","))
    return pairs if ascends(pairs) else None


def plain_tree(word):
    """By taking leaves away, one by one."""
    if not re.fullmatch("[0-9(),]+", word):
        return None

    def read(at):
        found = re.compile(NUMBER).match(word, at)
        if not found:
            return None
        at, trees = found.end(), []
        if word[at:at + 1] == "(":
            while not trees or word[at:at + 1] == ",":
                told = read(at + 1)
                if told is None:
                    return None
                trees.append(told[0])
                at = told[1]
            if word[at:at + 1] != ")" or len(trees) > 3:
                return None
            at += 1
        return (int(found.group()), tuple(trees)), at

    told = read(0)
    return told[0] if told is not None and told[1] == len(word) and nodes(told[0]) <= 40 else None


def changed_by_one_sign(text, chance=None, many=60):
    """Texts with one sign put in, left out or changed: all of them, or some."""
    found = {text[:at] + text[at + 1:] for at in range(len(text))}
    for sign in SIGNS:
        found |= {text[:at] + sign + text[at:] for at in range(len(text) + 1)}
        found |= {text[:at] + sign + text[at + 1:] for at in range(len(text))}
    found.discard(text)
    told = sorted(found)
    return told if chance is None else chance.sample(told, min(many, len(told)))


class Plain(unittest.TestCase):
    def test_words(self):
        for word, text in (("u", "u"), ((0, "u"), "0.u"), ((12, "abcdefgh"), "12.abcdefgh"), ((BIG, "z"), "9" * 1000 + ".z")):
            self.assertEqual(word_text(word), text)
            self.assertEqual(word_read(text), word)
        for text in (
                "", "-", "0.", ".u", "0", "00.u", "01.u", "0.u.v", "0.0.u", "u.0", "-1.u", "+1.u", "0. u", " u", "u ", "U", "0.U",
                "abcdefghi", "0.abcdefghi", "u\n", "\nu", "0.u\n", "u,v", "0 .u", "1_0.u", "0.u1", "u1", "~", "1.-",
        ):
            self.assertIsNone(word_read(text), text)

    def test_lots(self):
        for lot, text in (
                ((), "-"), (((0, "r"),), "0.r"), (((0, "r"), (1, "d")), "0.r,1.d"), (((2, "z"), (10, "a")), "2.z,10.a"),
                (((1, "a"), (1, "aa"), (1, "b")), "1.a,1.aa,1.b"), (((9, "a"), (BIG, "a")), "9.a," + "9" * 1000 + ".a"),
        ):
            self.assertEqual(lot_word(lot), text)
            self.assertEqual(lot_read(text), lot)
        for text in ("", "0", "r", "0.r,", ",0.r", "0.r,,1.d", "1.d,0.r", "0.r,0.r", "10.a,2.z", "1.b,1.a", "0.r 1.d", "-,0.r", "--",
                     "00.r", "0.r,01.d", "0.r\n", " -", "- ", "0.R"):
            self.assertIsNone(lot_read(text), text)

    def test_trees(self):
        for tree, text in (
                ((0, ()), "0"), (CHAIN, "0(1(0))"), (BOTH, "0(0,0)"), ((7, ((10, ()), (0, ()), (2, ((3, ()),)))), "7(10,0,2(3))"),
                ((BIG, ()), "9" * 1000), (chain_of(38), "0(" + "1(" * 38 + "0" + ")" * 39),
        ):
            self.assertEqual(tree_word(tree), text)
            self.assertEqual(tree_read(text), tree)
        # At most 40 nodes, and 3 trees each.
        self.assertEqual(nodes(chain_of(38)), 40)
        self.assertIsNone(tree_read(tree_word(chain_of(39))))
        self.assertIsNone(tree_read("0(1,2,3,4)"))
        self.assertIsNone(tree_read("(" * 10 ** 5))
        self.assertIsNone(tree_read("0(" * 10 ** 5))
        self.assertEqual(tree_word(chain_of(3000)).count("("), 3001)
        for text in ("", "()", "0()", "(0)", "0(", "0)", "0(1", "0(1))", "0(1)2", "0(1)(2)", "0,1", "0(1,)", "0(,1)", "00", "01", "0(01)",
                     "0 (1)", "0( 1)", "0(1)\n", "-", "a", "0(a)", "0(-)", "1(0;2)", "+1", "0(1,2,3)4", "0((1))"):
            self.assertIsNone(tree_read(text), text)

    def test_programs(self):
        self.assertEqual(program_text(TWICE), (
            "procedure\nvisit - r\nrule 1 1\nrow\ngo 0\ngo 1\ngo 0\ngo 1\nmake r 0.u 1.u\n"
            "procedure\nvisit - -\nvisit - u\nrule\nrow\nmake a\nrow\nmake u a\n"
        ))
        self.assertIn("visit x y\nrule\nrow\nhand y x\nrule\nrow\nmake y\n", program_text(LENT))
        for program in (ONCE, DEEP, TWICE, LENT, ASKED, AGAIN, FIVE, BUSH, CROWDED, ENDLESS, (((((),), ((),), (((), ((),)),)),))):
            text = program_text(program)
            self.assertEqual(read_program(text), program)
            self.assertEqual(read_program(text[:-1]), program)
            self.assertEqual(error_told(read_program, text + "\n"), ("BadLine", text.count("\n")))

    def test_lines_that_can_not_stand_there(self):
        for text, number in (
                ("", 0), ("\n", 0), ("procedure", 1), ("procedure\n", 1), ("procedure\nvisit - -\n", 2), ("visit - -", 0),
                ("procedure\nprocedure", 1), ("procedure\nrule", 1), ("procedure\nrow", 1), ("procedure\nmake x", 1),
                ("procedure\nvisit - -\nrow", 2), ("procedure\nvisit - -\nmake x", 2), ("procedure\nvisit - -\nprocedure", 2),
                ("procedure\nvisit - -\nrule\nmake x", 3), ("procedure\nvisit - -\nrule\nrule", 3), ("procedure\nvisit - -\nrule\nvisit - -", 3),
                ("procedure\nvisit - -\nrule\nprocedure", 3), ("procedure\nvisit - -\nrule\nrow\nrow", 4),
                ("procedure\nvisit - -\nrule\nrow\nvisit - -", 4), ("procedure\nvisit - -\nvisit - -\nvisit - -\nvisit - -", 4),
                ("procedure\nvisit - -\nvisit - -\nrule\nrow\nrule", 5), ("procedure\nvisit - -\nvisit - -\nrule\nrow", 5),
                ("procedure\nvisit - -\nvisit - -\nrule\nrow\nprocedure", 5), ("procedure\nvisit -\n", 1), ("procedure\nvisit - - -\n", 1),
                ("procedure\nvisit b,a -\n", 1), ("procedure\nvisit a,a -\n", 1), ("procedure\nvisit a, -\n", 1), ("procedure\nvisit  - -", 1),
                ("procedure \nvisit - -", 0), (" procedure", 0), ("procedure\nvisit - -\nrule 1 2 3 4", 2), ("procedure\nvisit - -\nrule 01", 2),
                ("procedure\nvisit - -\nrule \n", 2), ("procedure\nvisit - -\nrule a", 2), ("procedure\nvisit - -\nrule\nrow x", 3),
                ("procedure\nvisit - -\nrule\nrow\nmake", 4), ("procedure\nvisit - -\nrule\nrow\nmake x ", 4),
                ("procedure\nvisit - -\nrule\nrow\nmake  x", 4), ("procedure\nvisit - -\nrule\nrow\nhand x", 4),
                ("procedure\nvisit - -\nrule\nrow\nhand x y z", 4), ("procedure\nvisit - -\nrule\nrow\ngo", 4),
                ("procedure\nvisit - -\nrule\nrow\ngo 1 2", 4), ("procedure\nvisit - -\nrule\nrow\ngo x", 4), ("procedure\nvisit - -\nrule\nrow\ngo 00", 4),
                ("procedure\nvisit - -\nrule\nrow\nask x", 4), ("procedure\nvisit - -\nrule\nrow\n\n", 4), ("home cell 0 -", 0),
        ):
            self.assertEqual(error_told(read_program, text), ("BadLine", number), text)
            self.assertEqual(plain_bad_line(text), number, text)

    def test_what_is_told_is_no_program(self):
        for text in (
                "procedure\nvisit - r\nrule\nrow", "procedure\nvisit a r\nrule\nrow\nmake r", "procedure\nvisit - r\nrule 1\nrow\ngo 0\nmake r",
                "procedure\nvisit - r\nrule\nrow\ngo 0\nmake r", "procedure\nvisit - r\nrule\nrow\nmake r\nmake r",
                "procedure\nvisit - r\nrule\nrow\nmake r 7.x", "procedure\nvisit - a\nvisit - a\nrule\nrow\nmake a\nrow\nmake a",
                "procedure\nvisit - r\nrule 0\nrow\nmake r", "procedure\nvisit - r\nrule\nrow\nmake r x",
                "procedure\nvisit - r\nrule\nrow\nmake r " + "9" * 1000 + ".x",
        ):
            self.assertIsNone(plain_bad_line(text))
            self.assertEqual(error_told(read_program, text), ("Unfit",), text)
        # What is no PROGRAM further ahead comes behind a line that can not stand there.
        self.assertEqual(error_told(read_program, "procedure\nvisit - r\nrule\nrow\nprocedure\nrule"), ("BadLine", 5))
        # A PROGRAM need not be clean.
        self.assertEqual(read_program(program_text(DEEP + ONCE)), DEEP + ONCE)

    def test_layouts(self):
        self.assertEqual(layout_text(()), "")
        self.assertEqual(read_layout(""), ())
        layout = (("round", 2, ((0, "r"),)), ("shelf", BIG, ()), ("cell", 0, ((3, "a"), (20, "b"))))
        text = layout_text(layout)
        self.assertEqual(text, "home round 2 0.r\nhome shelf " + "9" * 1000 + " -\nhome cell 0 3.a,20.b\n")
        self.assertEqual(read_layout(text), layout)
        self.assertEqual(read_layout(text[:-1]), layout)
        for told, number in (
                (text + "\n", 3), ("\n", 0), ("home", 0), ("home cell 0", 0), ("home cell 0 - -", 0), ("home cell 00 -", 0), ("home cell x -", 0),
                ("home Cell 0 -", 0), ("home  cell 0 -", 0), ("house cell 0 -", 0), ("home cell 0 1.b,1.a", 0), ("home abcdefghi 0 -", 0),
                (text + "home cell -1 -", 3), (text + " home cell 0 -", 3), ("home cell 0 -\n\nhome cell 0 -", 1), ("home cell 0 - ", 0),
        ):
            self.assertEqual(error_told(read_layout, told), ("BadLine", number), told)

    def test_nothing_else_is_told(self):
        # The readers of words take any text, also one with line breaks.
        for text in ("u\nv", "0.u\n1.v", "0\n", "\n"):
            for read in (word_read, lot_read, tree_read):
                self.assertIsNone(read(text))


class ForAllTexts(unittest.TestCase):
    def test_words_with_one_sign_changed(self):
        for text in ("u", "0.u", "12.abc", "z"):
            for told in changed_by_one_sign(text):
                found = word_read(told)
                good = re.fullmatch(WORD, told) is not None and "\n" not in told
                self.assertEqual(found is not None, good, told)
                if good:
                    self.assertEqual(word_text(found), told)
        for text in ("-", "0.r", "0.a,1.b,10.a", "1.a,1.aa"):
            for told in changed_by_one_sign(text):
                self.assertEqual(lot_read(told), plain_lot(told) if "\n" not in told else None, told)
                if lot_read(told) is not None:
                    self.assertEqual(lot_word(lot_read(told)), told)
        for text in ("0", "0(1(0))", "0(0,0)", "7(10,0,2(3))"):
            for told in changed_by_one_sign(text):
                self.assertEqual(tree_read(told), plain_tree(told), told)
                if tree_read(told) is not None:
                    self.assertEqual(tree_word(tree_read(told)), told)

    def test_programs_with_one_sign_changed(self):
        chance, good, unfit = random.Random(26), 0, 0
        for program in (ONCE, DEEP, TWICE, LENT, BUSH, FIVE):
            text = program_text(program)
            for told in changed_by_one_sign(text, chance, 900):
                number = plain_bad_line(told)
                try:
                    found = read_program(told)
                except BadLine as error:
                    self.assertEqual(error.number, number, told)
                    continue
                except ValueError:
                    self.assertIsNone(number)
                    unfit += 1
                    continue
                good += 1
                self.assertIsNone(number)
                self.assertTrue(is_program(found))
                self.assertIn(told, (program_text(found), program_text(found)[:-1]))
        self.assertGreater(good, 3)
        self.assertGreater(unfit, 200)

    def test_programs_with_lines_changed(self):
        chance = random.Random(27)
        for program in (ONCE, DEEP, TWICE, LENT):
            lines = program_text(program).split("\n")[:-1]
            for _ in range(300):
                told = list(lines)
                for _ in range(chance.randint(1, 2)):
                    deed, at = chance.randrange(3), chance.randrange(len(told))
                    if deed == 0:
                        del told[at]
                    elif deed == 1:
                        told.insert(at, chance.choice(lines))
                    else:
                        told[at] = chance.choice(lines)
                text = "\n".join(told)
                error = error_of(read_program, text)
                number = plain_bad_line(text)
                self.assertEqual(isinstance(error, BadLine), number is not None, text)
                if number is not None:
                    self.assertEqual(error.number, number, text)
                elif error is None:
                    self.assertEqual(program_text(read_program(text)), text + "\n")

    def test_layouts_with_one_sign_changed(self):
        text = "home round 2 0.r\nhome heap 0 0.a,1.b\n"
        form = f"home {NAME} {NUMBER} {PAIRS}"
        for told in changed_by_one_sign(text):
            lines = told.split("\n")
            lines = lines[:-1] if lines[-1] == "" else lines
            bad = [
                at for at, line in enumerate(lines)
                if not re.fullmatch(form, line) or plain_lot(line.split(" ")[3]) is None
            ]
            if bad:
                self.assertEqual(error_told(read_layout, told), ("BadLine", bad[0]), told)
            else:
                self.assertIn(told, (layout_text(read_layout(told)), layout_text(read_layout(told))[:-1]))

    def test_there_and_back(self):
        chance = random.Random(28)
        for seed in range(60):
            program = made_program(seed, procedures=4, rules=2, ins=3, outs=2, visits=3, callees=3, hands=0.4)
            text = program_text(program)
            self.assertIsNone(plain_bad_line(text))
            self.assertEqual(read_program(text), program)
            self.assertEqual(lot_read(lot_word(pairs_of(program))), pairs_of(program))
            if origins(program):
                layout = parted(chance, origins(program), ALL)
                self.assertEqual(read_layout(layout_text(layout)), layout)


if __name__ == "__main__":
    unittest.main()
