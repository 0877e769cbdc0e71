"""Books and faces that several tests use."""

import copy
import unittest


def word(text="go", tone=0):
    return ("word", text, tone)


def page(name, tone=0):
    return ("page", name, tone)


def note_piece(number):
    return ("note", number, 0)


def node(elder, kind, name="", marks=None, stuff=None):
    """A node, with stuff that fits its kind where none is told."""
    if stuff is None:
        stuff = {"text": [word()], "head": [word()], "note": [word()], "picture": [30, 20]}.get(kind, [])
    return (elder, kind, name, [] if marks is None else marks, stuff)


def body(*others):
    return [node(-1, "body")] + list(others)


def rich_nodes():
    """An ordinary book with each kind, and names, marks, tones, pages, notes and levels."""
    return [
        (-1, "body", "all", ["wide"], []),
        (0, "head", "top", ["big", "red"], [word("One", 2), note_piece(0), page("end", 1)]),
        (1, "note", "foot", ["small"], [word("see"), page("all", 3)]),
        (0, "aside", "", [], []),
        (3, "picture", "pic", [], [1, 2000]),
        (3, "case", "", ["a", "b", "c", "d"], []),
        (0, "text", "one", ["big"], [word("To"), page("two", 1), note_piece(0), note_piece(1), word("go.", 3)]),
        (6, "note", "", [], [word("a")]),
        (6, "note", "", [], [word("b", 1)]),
        (0, "shelf", "", [], []),
        (9, "grid", "", [], []),
        (10, "text", "", [], [word("x")]),
        (9, "case", "", [], []),
        (12, "text", "two", [], [word("y")]),
        (0, "case", "end", [], []),
    ]


def deep_nodes():
    """A book whose last node stands on level 6."""
    return [node(number - 1, "case" if number else "body") for number in range(6)] + [node(5, "text")]


class Untouched(unittest.TestCase):
    """Tests that look whether what is handed in stays as it was."""

    def ask(self, question, *given):
        before = copy.deepcopy(given)
        told = question(*given)
        self.assertEqual(given, before)
        again = question(*given)
        self.assertEqual(told, again)
        return told

    def refused(self, error, question, *given):
        before = copy.deepcopy(given)
        with self.assertRaises(error) as caught:
            question(*given)
        self.assertIs(type(caught.exception), error)
        self.assertEqual(given, before)


def lists_in(value):
    """All lists that stand in a value, itself among them, each as often as it stands there."""
    found = [value] if isinstance(value, list) else []
    if isinstance(value, (list, tuple)):
        for one in value:
            found.extend(lists_in(one))
    return found


def share_a_list(*values):
    """Whether one and the same list stands in the values twice."""
    found = [id(one) for value in values for one in lists_in(value)]
    return len(set(found)) < len(found)
