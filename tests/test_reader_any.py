"""Any rows are read to a book, and read just as a slow reader, written otherwise, reads them."""

import random
import re
import string
import unittest

from leafpress.books import made_book
from leafpress.reader import read_book
from leafpress.writer import book_rows
from tests.helpers import Untouched, share_a_list

WORD = r"[a-zA-Z0-9.,\-;:'()!?]{1,20}"
NAME = r"[a-z]{1,8}"
PIECE = rf"(?:\*{{0,3}}{WORD}|\*{{0,3}}\{{{NAME}\}}|\{{\}})"
SIDE = r"(?:[1-9][0-9]{0,2}|1[0-9]{3}|2000)"
LABELS = rf"(?: #(?P<name>{NAME}))?(?P<marks>(?: \.{NAME})*)"
ROWS = [
    re.compile(rf"(?P<level>>*)(?P<kind>body|case|shelf|grid|aside){LABELS}(?P<stuff>)"),
    re.compile(rf"(?P<level>>*)(?P<kind>text|head|note){LABELS} \| (?P<stuff>{PIECE}(?: {PIECE})*)"),
    re.compile(rf"(?P<level>>*)(?P<kind>picture){LABELS} \| (?P<stuff>{SIDE} {SIDE})"),
]
CELLS = {"case", "shelf", "grid", "text", "picture"}
HOLD = {
    "body": CELLS | {"head", "aside"}, "case": CELLS | {"head", "aside"}, "aside": CELLS | {"head"},
    "shelf": CELLS, "grid": CELLS, "text": {"note"}, "head": {"note"}, "note": set(), "picture": set(),
}


class Box:
    """A node that knows what it holds, and not its number."""

    def __init__(self, kind, level, name="", marks=(), stuff=()):
        self.kind, self.level, self.name, self.marks, self.stuff = kind, level, name, list(marks), list(stuff)
        self.held = []

    def walk(self):
        return [self] + [deeper for one in self.held for deeper in one.walk()]


class SlowReader:
    def __init__(self):
        self.body, self.boxes, self.mends = None, [], []

    def read(self, rows):
        for number, row in enumerate(rows):
            self.row = number
            self.read_row(row)
        self.row = -1
        self.finish()
        return self.told(), self.mends

    def mend(self, word, where=True):
        if where:
            self.mends.append((self.row, word))

    def read_row(self, row):
        found = [one for one in (form.fullmatch(row) for form in ROWS) if one]
        if not found:
            return self.mend("form")
        if len(self.boxes) == 60:
            return self.mend("many")
        part = found[0].groupdict()
        marks = [mark[1:] for mark in part["marks"].split()]
        box = Box(part["kind"], len(part["level"]), part["name"] or "", marks, part["stuff"].split())
        if self.body is None and box.kind == "body":
            self.body = box
            self.mend("level", box.level != 0)
            box.level = 0
        else:
            if self.body is None:
                self.body = Box("body", 0)
                self.boxes = [self.body]
                self.mend("body")
            elif box.kind == "body":
                box.kind = "case"
                self.mend("body")
            if not self.hang(box):
                return self.mend("place")
        self.mend_box(box)
        self.boxes.append(box)

    def hang(self, box):
        for level in range(min(max(box.level, 1), 6), 0, -1):
            places = [k for k, one in enumerate(self.boxes) if one.level == level - 1]
            if places and all(one.level >= level - 1 for one in self.boxes[places[-1]:]):
                elder = self.boxes[places[-1]]
                if box.kind in HOLD[elder.kind]:
                    self.mend("level", level != box.level)
                    box.level = level
                    elder.held.append(box)
                    return True
        return False

    def mend_box(self, box):
        if box.name and any(one.name == box.name for one in self.boxes):
            box.name = ""
            self.mend("name")
        marks = sorted(dict.fromkeys(box.marks))[:4]
        self.mend("marks", marks != box.marks)
        box.marks = marks
        if box.kind in ("text", "head", "note"):
            stuff = list(box.stuff)
            while "{}" in stuff and (box.kind == "note" or stuff[0] == "{}"):
                stuff.remove("{}")
            self.mend("pieces", len(stuff[:60]) < len(box.stuff))
            self.mend("bare", not stuff)
            box.stuff = stuff[:60] or ["?"]

    def finish(self):
        self.mend("body", self.body is None)
        self.body = self.body or Box("body", 0)
        for box in self.body.walk():
            if box.kind in ("text", "head"):
                self.mend("notes", box.stuff.count("{}") != len(box.held))
                while box.stuff.count("{}") > len(box.held):
                    del box.stuff[max(k for k, piece in enumerate(box.stuff) if piece == "{}")]
                while box.stuff.count("{}") < len(box.held) and len(box.stuff) < 60:
                    box.stuff.append("{}")
                del box.held[box.stuff.count("{}"):]
        for elder in self.body.walk():
            for box, behind in zip(elder.held, elder.held[1:] + [None]):
                alone = box.kind == "aside" and (behind is None or behind.kind != "text")
                if alone or (box.kind in ("aside", "shelf", "grid") and not box.held):
                    box.kind = "case"
                    self.mend("case")
        if not any(box.kind != "aside" for box in self.body.held):
            self.mend("bare")
            self.body.held.append(Box("text", 1, stuff=["?"]))

    def told(self):
        """The rows of the book: the pieces as they were written, so that this reader needs none of their parts."""
        rows = []
        for box in self.body.walk():
            words = [">" * box.level + box.kind] + ["#" + box.name] * (box.name != "")
            words += ["." + mark for mark in box.marks] + ["|"] * (box.stuff != []) + box.stuff
            rows.append(" ".join(words))
        return rows


class AnyRows(Untouched):
    def look(self, rows):
        book, mends = self.ask(read_book, rows)
        self.assertEqual(made_book(book), book)
        self.assertFalse(share_a_list(rows, book, mends))
        right_rows, right_mends = SlowReader().read(rows)
        self.assertEqual(book_rows(book), right_rows, rows)
        self.assertEqual(mends, right_mends, rows)
        self.assertEqual(read_book(right_rows), (book, []), rows)
        return mends

    def piece(self, chance):
        return chance.choice(["a", "*b", "{}", "{}", "***{c}", "Go.", "?", "w" * 20])

    def row(self, chance):
        kind = chance.choice("body case case shelf grid text text head picture aside note note".split())
        words = [">" * chance.choice([0, 1, 1, 2, 2, 3, 3, 4, 5, 6, 7, 9]) + kind]
        words += ["#" + chance.choice("abcdefghij")] * chance.choice([0, 0, 1])
        words += ["." + chance.choice("abcde") for k in range(chance.choice([0, 0, 0, 1, 2, 3, 6]))]
        if kind == "picture":
            words += ["|"] + [str(chance.choice([1, 20, 1999, 2000])) for k in range(2)]
        if kind in ("text", "head", "note"):
            words += ["|"] + [self.piece(chance) for k in range(chance.choice([1, 1, 2, 3, 5, 59, 60, 61, 65]))]
        return " ".join(words)

    def broken(self, chance, row):
        """The row with one sign put, left out or changed."""
        place = chance.randrange(len(row) + 1)
        sign = chance.choice([""] + list(" >#.|*{}a0A9\n\t~") + ["  "])
        return row[:place] + sign + row[place + chance.randrange(2):]

    def test_rows_nearly_right(self):
        words = set(self.look([]))
        for seed in range(400):
            chance = random.Random(seed)
            rows = [self.row(chance) for k in range(chance.choice([1, 2, 5, 10, 30, 60, 100]))]
            rows = [self.broken(chance, row) if chance.randrange(10) == 0 else row for row in rows]
            words.update(self.look(rows))
        told = {word for row, word in words}
        self.assertEqual(told, set("form many body level place name marks pieces bare notes case".split()))
        behind = {word for row, word in words if row == -1}
        self.assertEqual(behind, set("body notes case bare".split()))

    def test_one_sign_changed(self):
        chance = random.Random(1)
        for row in (">>text #one .big | To *{two} {} go", "picture .a | 20 1000", ">note | {} a", "body #x .y .x"):
            for k in range(300):
                self.look(["body", ">text | a", self.broken(chance, row)])
                self.look([self.broken(chance, self.broken(chance, row))])

    def test_any_signs(self):
        signs = [chr(k) for k in range(32, 127)] + ["\n", "\t", "\r"]
        for seed in range(40):
            chance = random.Random(seed)
            few = chance.choice([signs, " >text|a{}*", " >casenote|#.a", string.ascii_lowercase + " "])
            self.look(["".join(chance.choices(few, k=chance.choice([0, 1, 5, 50]))) for k in range(100)])

    def test_a_hundred_rows_of_two_thousand_signs(self):
        chance = random.Random(7)
        for sign in (">", " ", "*", "|", "{", "a", "0", "#", ".", "~"):
            self.look([sign * 2000] * 100)
        for head in (">text | ", ">>>note | ", "head | {} ", ">text #a .b | "):
            rows = []
            while len(rows) < 100:
                row = head + " ".join(self.piece(chance) for k in range(1000))
                rows.append(row[:2000].rstrip(" *{"))
            self.look(rows)
        self.look([">" * 1996 + "case"] * 100)
        self.look(["case" + " .a .b" * 332] * 100)

    def test_all_short_rows(self):
        rows = ["", "body", ">case", ">>case", ">text | a", ">>note | b", ">aside", ">shelf", ">text | {}"]
        for first in rows:
            for second in rows:
                for third in rows:
                    self.look([first, second, third])


if __name__ == "__main__":
    unittest.main()
