"""Point [28]: a desk, beside a Board."""

import random
import re
import unittest

from crossnest.board import Board
from crossnest.desk import event_word, is_request, path_word, replies
from crossnest.programs import pairs_of
from crossnest.texts import layout_text, lot_word, program_text, tree_word
from tests.samples import CROWDED, D, DEEP, LENT, ONCE, TWICE, wide_program
from tests.small import SLIM, error_told, small_programs
from tests.test_board import HOMES, told_by
from tests.test_texts import NAME, NUMBER, PAIRS, changed_by_one_sign, plain_lot

REQUEST = (
    f"choose {NUMBER}|keep {NAME} {NUMBER} {PAIRS}|leave {NUMBER}|strike {NUMBER} {NUMBER}|undo|redo|front|least|known"
    "|events|alive|failing|seen|parts|program"
)
PLAIN = ("undo", "redo", "front", "least", "known", "events", "alive", "failing", "seen", "parts", "program")


def plain_request(text):
    if not re.fullmatch(REQUEST, text) or "\n" in text:
        return False
    return not text.startswith("keep") or plain_lot(text.split(" ")[3]) is not None


def joined(words, between=" "):
    return between.join(words) or "-"


def path_told(path):
    return joined([str(place) for place in path], ".")


def event_told(event):
    return path_told(event[0]) + f"/{event[1]}/{event[2]}"


def plain_reply(board, line):
    """What a Board tells of a request, by its looks and deeds."""
    word, *given = line.split(" ")
    if word == "keep":
        given = [given[0], int(given[1]), plain_lot(given[2])]
    else:
        given = [int(one) for one in given]
    found = told_by(board, word, given)
    if isinstance(found, tuple) and found and isinstance(found[0], str) and word != "parts":
        return "refused " + found[0]
    if word in ("keep", "leave", "strike", "undo", "redo"):
        return "done"
    if word in ("choose", "events"):
        return joined([event_told(event) for event in found])
    if word == "front":
        return "end" if found is None else path_told(found)
    if word == "least":
        return tree_word(found)
    if word == "known":
        return joined([f"{path_told(path)}:{rule}" for path, rule in found])
    if word == "parts":
        return joined([line[len("home "):] for line in layout_text(found).split("\n")[:-1]], " / ")
    if word == "program":
        return joined(program_text(found).split("\n")[:-1], " / ")
    return joined([str(number) for number in found])


def some_request(chance, pairs):
    word = chance.choice(["choose", "choose", "choose", "keep", "keep", "leave", "strike"] + list(PLAIN))
    if word == "keep":
        home = chance.choice(HOMES + ("shelf",))
        number = chance.choice([1, 2, 9]) if home in ("round", "homes") else chance.choice([0, 0, 0, 1])
        lot = tuple(sorted(chance.sample(pairs, min(len(pairs), chance.randint(0, 2)))))
        return f"keep {home} {number} {lot_word(lot)}"
    if word in ("choose", "leave"):
        return f"{word} {chance.choice([0, 0, 1, 2])}"
    if word == "strike":
        return f"strike {chance.choice([0, 1, 9])} {chance.choice([0, 1, 2])}"
    return word


class Plain(unittest.TestCase):
    def test_is_request(self):
        big = "9" * 5000
        good = list(PLAIN) + [
            "choose 0", "choose 12", "leave 0", "strike 0 1", "keep cell 0 0.x", "keep shelf 99 -", "keep a 7 1.a,1.b,10.a", "choose " + big,
            "keep round " + big + " " + big + ".a", "strike " + big + " 0",
        ]
        for text in good:
            self.assertTrue(is_request(text), text[:40])
        for text in (
                "", " ", "choose", "choose 01", "choose 00", "choose -1", "choose +1", "choose x", "choose 1 2", "choose 1 ", " choose 1",
                "choose  1", "choose 1\n", "Choose 1", "leave", "leave 1 1", "strike 1", "strike 1 1 1", "keep cell 0", "keep cell 0 x",
                "keep cell 0 0.x 1", "keep Cell 0 0.x", "keep cell 00 0.x", "keep cell 0 1.b,1.a", "keep cell 0 0.x,0.x", "keep cell 0 ",
                "keep abcdefghi 0 -", "keep  cell 0 -", "undo 1", "undo ", " undo", "front ", "front\n", "add", "add 0 -", "twin", "keep",
                "program 0", "failing\n", "known known", "\n", "choose\t1", "choose 1_0", "0", "-", "keep cell 0 " + big + ".a,1.a",
        ):
            self.assertIs(is_request(text), False, text[:40])
        for thing in (None, True, 0, 7, (), [], ("front",), ["front"], (("front",),), "x" * 10 ** 5, 10 ** 30, ("choose", 0)):
            self.assertIs(is_request(thing), False)

    def test_words(self):
        for path, word in (((), "-"), ((0,), "0"), ((0, 12, 1), "0.12.1"), ([2, 0], "2.0")):
            self.assertEqual(path_word(path), word)
            self.assertEqual(event_word((path, 1, 11)), word + "/1/11")
        self.assertEqual(event_word([[], 0, 0]), "-/0/0")
        self.assertEqual(path_word((0,) * 2000), ".".join("0" * 2000))

    def test_lines(self):
        self.assertEqual(replies(ONCE, ""), [])
        for text, number in (
                ("\n", 0), ("front\n", 1), ("front\n\nfront", 1), ("\nfront", 0), ("front\nfront ", 1), ("front\nchoose", 1), ("front\r", 0),
                ("choose 0\nchoose 0 0\nx", 1), ("front  ", 0), ("keep  cell 0 0.x", 0), ("choose 9\nnone", 1),
        ):
            self.assertEqual(error_told(replies, ONCE, text), ("BadLine", number), text)
        self.assertEqual(replies(ONCE, "front"), ["-"])
        self.assertEqual(replies(program=ONCE, text="front\nfront"), ["-", "-"])

    def test_what_is_refused(self):
        text = "undo\nredo\nleave 0\nkeep cell 0 -\nkeep shelf 0 0.x\nkeep cell 0 7.x\nstrike 7 0\nstrike 0 7\nstrike 0 0\nchoose 7\nparts"
        self.assertEqual(replies(ONCE, text), [
            "refused NothingDone", "refused NothingDone", "refused CanNot", "refused Unfit", "refused Unfit", "refused Unfit",
            "refused NoProcedure", "refused NoRule", "refused Unfit", "refused NoRule", "-",
        ])
        self.assertEqual(replies(ONCE, "choose 0\nchoose 0\nstrike 0 0\nchoose 9"), ["-/0/0 -/0/1 -/0/2"] + ["refused CanNot"] * 3)
        self.assertEqual(replies(CROWDED, "alive\nkeep region 0 1.a\nseen\nleave 0\nseen"), [
            "refused TooMany", "done", "refused TooMany", "done", "-",
        ])
        wide = wide_program("abcde", "")
        self.assertEqual(replies(wide, "keep stack 0 1.a\nfailing\nundo\nfailing"), ["done", "refused TooMany", "done", "-"])
        big = "9" * 1000
        self.assertEqual(replies(ONCE, f"choose {big}\nleave {big}\nkeep round {big} {big}.a\nstrike {big} 0"), [
            "refused NoRule", "refused CanNot", "refused Unfit", "refused NoProcedure",
        ])

    def test_what_is_told(self):
        self.assertEqual(replies(LENT, "known\nevents\nalive\nleast\nchoose 0\nknown\nalive\nchoose 1\nknown\nfront\nalive"), [
            "-", "-", "-", "0(0)", "-/0/0", "-:0", "0", "0/0/0 -/0/2 -/0/3", "-:0 0:1", "end", "-",
        ])
        self.assertEqual(replies(TWICE, "keep homes 2 0.r,1.a\nkeep heap 0 1.u\nparts\nfailing\nseen"), [
            "done", "done", "homes 2 0.r,1.a / heap 0 1.u", "-", "-",
        ])
        self.assertEqual(replies(LENT, "program")[0], joined(program_text(LENT).split("\n")[:-1], " / "))
        # Each call begins at a new Board.
        self.assertEqual(replies(DEEP, "choose 0"), replies(DEEP, "choose 0"))


class BesideABoard(unittest.TestCase):
    def test_rows_of_requests(self):
        chance = random.Random(29)
        for program, _, _, _ in small_programs(range(1600, 1606), kinds=SLIM, rules=5):
            pairs = list(pairs_of(program))
            lines = [some_request(chance, pairs) for _ in range(20)]
            board = Board(program)
            self.assertEqual(replies(program, "\n".join(lines)), [plain_reply(board, line) for line in lines])

    def test_requests_with_one_sign_changed(self):
        for text in ("choose 0", "keep cell 0 0.x", "keep round 2 0.a,1.b", "strike 1 0", "undo", "seen", "leave 10", "keep a 0 -"):
            for told in changed_by_one_sign(text):
                self.assertEqual(is_request(told), plain_request(told), told)

    def test_deep_and_its_looks(self):
        board = Board(DEEP)
        lines = ["keep order 0 1.d", "keep queue 0 1.d", "failing", "seen", "choose 0", "choose 1", "choose 1", "seen", "choose 0", "seen",
                 "alive", "events", "undo", "alive", "least", "known", "front", "redo", "front", "program", "parts"]
        self.assertEqual(replies(DEEP, "\n".join(lines)), [plain_reply(board, line) for line in lines])
        self.assertEqual(board.parts(), (("order", 0, D), ("queue", 0, D)))


if __name__ == "__main__":
    unittest.main()
