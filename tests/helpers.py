"""Books and faces that several tests use."""

import copy
import unittest

from leafpress.books import MAY_HOLD
from leafpress.faces import made_face
from leafpress.reader import read_book
from leafpress.rules import PROPERTIES

KINDS = ["body", "case", "shelf", "grid", "text", "head", "picture", "aside", "note"]
UNTOLD = [0, 0, 0, 0, 1, 0, 4000, 2, 1, 1, 0, 100, 0]
BOUNDS = [(0, 99), (0, 3), (0, 400), (0, 400), (1, 9), (0, 4000), (0, 4000), (1, 6), (1, 6), (1, 4), (0, 1), (1, 4000),
          (0, 1)]

def word(text="go", tone=0):
    return ("word", text, tone)


def page(name, tone=0):
    return ("page", name, tone)


def note_piece(number):
    return ("note", number, 0)


def node(elder, kind, name="", marks=None, stuff=None):
    """A node, with stuff that fits its kind where none is told."""
    if stuff is None:
        stuff = {"text": [word()], "head": [word()], "note": [word()], "picture": [30, 20]}.get(kind, [])
    return (elder, kind, name, [] if marks is None else marks, stuff)


def body(*others):
    return [node(-1, "body")] + list(others)


def rich_nodes():
    """An ordinary book with each kind, and names, marks, tones, pages, notes and levels."""
    return [
        (-1, "body", "all", ["wide"], []),
        (0, "head", "top", ["big", "red"], [word("One", 2), note_piece(0), page("end", 1)]),
        (1, "note", "foot", ["small"], [word("see"), page("all", 3)]),
        (0, "aside", "", [], []),
        (3, "picture", "pic", [], [1, 2000]),
        (3, "case", "", ["a", "b", "c", "d"], []),
        (0, "text", "one", ["big"], [word("To"), page("two", 1), note_piece(0), note_piece(1), word("go.", 3)]),
        (6, "note", "", [], [word("a")]),
        (6, "note", "", [], [word("b", 1)]),
        (0, "shelf", "", [], []),
        (9, "grid", "", [], []),
        (10, "text", "", [], [word("x")]),
        (9, "case", "", [], []),
        (12, "text", "two", [], [word("y")]),
        (0, "case", "end", [], []),
    ]


def deep_nodes():
    """A book whose last node stands on level 6."""
    return [node(number - 1, "case" if number else "body") for number in range(6)] + [node(5, "text")]


def plain_looks(many, told=None):
    """Looks of so many nodes as no rule tells them, but for what is told: {node: {property: value}}."""
    looks = [list(UNTOLD) for k in range(many)]
    for number, values in (told or {}).items():
        for name, value in values.items():
            looks[number][PROPERTIES.index(name)] = value
    return looks


def any_rows(chance, kind, level):
    """The rows of a node of a kind and of what it holds, by chance."""
    marks = "".join(" ." + mark for mark in "klm" if chance.randrange(3) == 0)
    pieces = ["go", "Word", "ill-fit,", "*a", "**bee", "***b.", "{}", "{one}", "*{two}", "***{one}", "**{three}"]
    stuff, held = "", []
    if kind == "picture":
        stuff = f" | {chance.randint(1, 90)} {chance.randint(1, 90)}"
    elif kind in ("text", "head", "note"):
        stuff = " | " + " ".join(chance.choice(pieces) for k in range(chance.choice([1, 2, 3, 6, 12])))
        held = ["note"] * chance.choice([0, 0, 0, 1, 2]) if kind != "note" else []
    elif level < 6:
        kinds = [one for one in MAY_HOLD[kind] for k in range(3 if one == "aside" else 1)]
        held = [chance.choice(kinds) for k in range(chance.choice([1, 2, 2, 3, 4, 6]))]
    rows = [">" * level + kind + marks + stuff]
    for one in held:
        rows.extend(any_rows(chance, one, level + 1))
        if one == "aside":
            rows.extend(any_rows(chance, "text", level + 1))
    return rows


def any_book(chance):
    """A book of any tree; the reader mends what was cut off or has no room."""
    return read_book(any_rows(chance, "body", 0)[:chance.choice([1, 5, 12, 30, 60])])[0]


def any_rule(chance):
    sets = [(PROPERTIES[place], chance.randint(*BOUNDS[place]))
            for place in chance.sample(range(13), chance.choice([1, 3, 13]))]
    return (chance.randrange(3), chance.choice(KINDS + [""] * 9), chance.choice(KINDS + [""] * 9),
            chance.choice(["k", "m", "", ""]), sets)


def any_looks(chance, many):
    """Looks within all bounds, small values being more likely than great ones."""
    looks = []
    for k in range(many):
        spread = chance.choice([1, 3, 30, 4000])
        looks.append([chance.randint(low, min(high, low + spread)) for low, high in BOUNDS])
        if chance.randrange(2) == 0:
            looks[-1][PROPERTIES.index("most")] = 4000
    return looks


def any_faces(chance):
    faces = []
    for k in range(chance.randint(1, 8)):
        odd = chance.sample("aeo.?0123456789", chance.randrange(6))
        faces.append(made_face(chance.randint(1, 30), chance.randint(0, 9), chance.randint(1, 12),
                               [(sign, chance.randint(1, 20)) for sign in odd]))
    return faces


def units_of(*wides, blank=0, high=10):
    """Units of such widths; a unit told as a tuple has its own blank, too."""
    told = [one if isinstance(one, tuple) else (one, blank) for one in wides]
    return [(wide, own, high, piece, []) for piece, (wide, own) in enumerate(told)]


def any_units(chance, many):
    """Units as in a book, or, at times, without any width."""
    least, most, blank = chance.choice([0, 1, 1, 1]), chance.choice([1, 2, 5, 40]), chance.choice([0, 1, 3, 9])
    return [(chance.randint(least, most), chance.randint(0, blank), chance.randint(1, 30), piece, [])
            for piece in range(many)]


class Untouched(unittest.TestCase):
    """Tests that look whether what is handed in stays as it was."""

    def ask(self, question, *given):
        before = copy.deepcopy(given)
        told = question(*given)
        self.assertEqual(given, before)
        again = question(*given)
        self.assertEqual(told, again)
        return told

    def refused(self, error, question, *given):
        before = copy.deepcopy(given)
        with self.assertRaises(error) as caught:
            question(*given)
        self.assertIs(type(caught.exception), error)
        self.assertEqual(given, before)


def lists_in(value):
    """All lists that stand in a value, itself among them, each as often as it stands there."""
    found = [value] if isinstance(value, list) else []
    if isinstance(value, (list, tuple)):
        for one in value:
            found.extend(lists_in(one))
    return found


def share_a_list(*values):
    """Whether one and the same list stands in the values twice."""
    found = [id(one) for value in values for one in lists_in(value)]
    return len(set(found)) < len(found)
