import unittest

from leafpress.books import made_book
from leafpress.errors import NoRule
from leafpress.rules import PROPERTIES, fits, look_at, made_rules
from tests.helpers import Untouched, body, deep_nodes, lists_in, node, note_piece, rich_nodes, share_a_list, word

BOUNDS = {
    "face": (0, 99), "align": (0, 3), "above": (0, 400), "inset": (0, 400), "weight": (1, 9), "least": (0, 4000),
    "most": (0, 4000), "columns": (1, 6), "span": (1, 6), "deep": (1, 4), "side": (0, 1), "wide": (1, 4000),
    "fresh": (0, 1),
}
KINDS = ["body", "case", "shelf", "grid", "text", "head", "picture", "aside", "note"]


def rule(rank=0, kind="", within="", mark="", sets=None):
    return (rank, kind, within, mark, [("face", 1)] if sets is None else sets)


class Properties(unittest.TestCase):
    def test_their_names_in_order(self):
        self.assertIs(type(PROPERTIES), tuple)
        self.assertEqual(PROPERTIES, (
            "face", "align", "above", "inset", "weight", "least", "most", "columns", "span", "deep", "side", "wide",
            "fresh",
        ))


class MadeRules(Untouched):
    def made(self, *rules):
        given = list(rules)
        told = self.ask(made_rules, given)
        self.assertEqual(told, given)
        self.assertIs(type(told), list)
        for one in told:
            self.assertEqual([type(one)] + [type(part) for part in one], [tuple, int, str, str, str, list])
        return told

    def no(self, *rules):
        """Refused alone, and among rules that are right."""
        self.refused(NoRule, made_rules, list(rules))
        self.refused(NoRule, made_rules, [rule()] + list(rules))
        self.refused(NoRule, made_rules, list(rules) + [rule()])

    def test_no_rules(self):
        self.made()

    def test_ordinary_rules(self):
        self.made(
            rule(3, "text", "case", "big", [("face", 2), ("align", 3)]), rule(0, "", "", "red", [("above", 10)]),
            rule(9, "head", "", "", [("fresh", 1)]), rule(1, "", "aside", "", [("wide", 300), ("side", 1)]),
        )
        self.assertEqual(made_rules(rules=[rule()]), [rule()])

    def test_rules_are_made_of_rules(self):
        rules = [rule(4, "grid", "shelf", "m", [("columns", 3), ("inset", 4)]), rule()]
        self.assertEqual(made_rules(made_rules(rules)), rules)

    def test_the_order_of_sets_stays(self):
        told = self.made(rule(sets=[("wide", 5), ("face", 1), ("align", 2)]))
        self.assertEqual(told[0][4], [("wide", 5), ("face", 1), ("align", 2)])

    def test_rank(self):
        for rank in range(10):
            self.made(rule(rank))
        for rank in (-1, 10, 11, 100, -5):
            self.no(rule(rank))

    def test_the_bounds_of_each_property(self):
        for name, (low, high) in BOUNDS.items():
            with self.subTest(name):
                for value in (low, low + 1, high - 1, high):
                    self.made(rule(sets=[(name, value)]))
                for value in (low - 1, high + 1, -100, 100000):
                    self.no(rule(sets=[(name, value)]))
                    if name != "above":
                        self.no(rule(sets=[("above", 3), (name, value)]))

    def test_how_many_settings(self):
        every = [(name, BOUNDS[name][1]) for name in PROPERTIES]
        for count in range(1, 14):
            self.made(rule(sets=every[:count]))
        self.made(rule(sets=list(reversed(every))))
        self.no(rule(sets=[]))
        for name in PROPERTIES:
            self.no(rule(sets=every + [(name, BOUNDS[name][0])]))
        self.no(rule(sets=every + every))

    def test_a_property_twice(self):
        self.no(rule(sets=[("face", 1), ("face", 2)]))
        self.no(rule(sets=[("face", 1), ("face", 1)]))
        self.no(rule(sets=[("inset", 1), ("face", 1), ("align", 0), ("inset", 4)]))

    def test_what_is_no_property(self):
        for name in ("", "Face", "faces", "high", "kind", " face", "face ", "blank", "FACE", "text"):
            self.no(rule(sets=[(name, 1)]))
            self.no(rule(sets=[("align", 1), (name, 1)]))

    def test_what_is_no_setting(self):
        for one in (("face",), ("face", 1, 1), (), ("face", "1"), ("face", None), (1, "face"), ["face", 1], "face", 1,
                    ("face", True), ("fresh", False), ("face", (1,)), None):
            self.no(rule(sets=[one]))
            self.no(rule(sets=[("align", 1), one]))

    def test_forty_rules(self):
        self.made(*[rule(k % 10, sets=[("above", k)]) for k in range(40)])
        for many in (41, 42, 100):
            self.refused(NoRule, made_rules, [rule()] * many)

    def test_kinds(self):
        for kind in KINDS:
            self.made(rule(kind=kind))
            self.made(rule(within=kind))
            self.made(rule(kind=kind, within=kind, mark="a"))
        for kind in ("Text", "texts", "tex", "block", " ", "text ", "big", "face", "text\n"):
            self.no(rule(kind=kind))
            self.no(rule(within=kind))
            self.no(rule(kind="text", within=kind))
            self.no(rule(kind=kind, within="text"))

    def test_marks(self):
        for mark in ("a", "z", "abcdefgh", "text"):
            self.made(rule(mark=mark))
            self.made(rule(kind="head", within="case", mark=mark))
        for mark in ("abcdefghi", "A", "aB", "a1", "1", ".a", "a b", " ", "a-", "a\n", "?"):
            self.no(rule(mark=mark))
            self.no(rule(kind="head", within="case", mark=mark))

    def test_what_is_no_rule(self):
        whole = rule(1, "text", "case", "big")
        self.no(whole[:4])
        self.no(whole + (1,))
        self.no(())
        self.no(list(whole))
        self.no(None)
        self.no("text")
        for place, parts in enumerate(((True, "1", None), (1, None, ["text"]), (1, None), (1, None, ["a"]), (
            (("face", 1),), {"face": 1}, None, "face", "",
        ))):
            for part in parts:
                with self.subTest((place, part)):
                    self.no(whole[:place] + (part,) + whole[place + 1:])

    def test_one_wrong_one_among_forty(self):
        for place in range(40):
            rules = [rule(k % 10) for k in range(40)]
            rules[place] = rule(10)
            self.refused(NoRule, made_rules, rules)

    def test_what_is_told_is_its_own(self):
        sets = [("face", 1), ("wide", 30)]
        rules = [rule(1, sets=sets), rule(2, sets=sets), rule(3)]
        whole = [rule(1, sets=list(sets)), rule(2, sets=list(sets)), rule(3)]
        first = made_rules(rules)
        second = made_rules(rules)
        self.assertFalse(share_a_list(first, second))
        self.assertFalse(share_a_list(rules[:1], rules[2:], first, second))
        for one in lists_in(first):
            one.append("x")
        self.assertEqual(rules, whole)
        self.assertEqual(second, whole)
        sets.clear()
        rules.clear()
        self.assertEqual(second, whole)


class Fits(Untouched):
    def nodes_that_fit(self, book, *conditions):
        told = [self.ask(fits, book, rule(5, *conditions), number) for number in range(len(book))]
        self.assertTrue(all(one is True or one is False for one in told))
        return [number for number, one in enumerate(told) if one]

    def test_no_condition_at_all(self):
        book = made_book(rich_nodes())
        self.assertEqual(self.nodes_that_fit(book, "", "", ""), list(range(len(book))))

    def test_kind(self):
        book = made_book(rich_nodes())
        for kind in KINDS:
            right = [number for number, one in enumerate(book) if one[1] == kind]
            self.assertNotEqual(right, [])
            self.assertEqual(self.nodes_that_fit(book, kind, "", ""), right)

    def test_mark(self):
        book = made_book(rich_nodes())
        for mark, right in (("big", [1, 6]), ("red", [1]), ("small", [2]), ("wide", [0]), ("a", [5]), ("d", [5]),
                            ("bi", []), ("bigger", []), ("one", []), ("top", []), ("text", [])):
            self.assertEqual(self.nodes_that_fit(book, "", "", mark), right)

    def test_within(self):
        book = made_book(rich_nodes())
        for kind, right in (("body", list(range(1, 15))), ("head", [2]), ("aside", [4, 5]), ("text", [7, 8]),
                            ("shelf", [10, 11, 12, 13]), ("grid", [11]), ("case", [13]), ("note", []),
                            ("picture", [])):
            self.assertEqual(self.nodes_that_fit(book, "", kind, ""), right)

    def test_within_an_elders_elder(self):
        book = made_book(deep_nodes())
        self.assertEqual(self.nodes_that_fit(book, "text", "body", ""), [6])
        book = made_book(body(
            node(0, "shelf"), node(1, "grid"), node(2, "case"), node(3, "text", stuff=[word(), note_piece(0)]),
            node(4, "note"), node(0, "text"), node(0, "case"), node(7, "head"),
        ))
        self.assertEqual(self.nodes_that_fit(book, "", "shelf", ""), [2, 3, 4, 5])
        self.assertEqual(self.nodes_that_fit(book, "note", "shelf", ""), [5])
        self.assertEqual(self.nodes_that_fit(book, "text", "grid", ""), [4])

    def test_not_within_itself(self):
        book = made_book(body(node(0, "case"), node(1, "case"), node(0, "case")))
        self.assertEqual(self.nodes_that_fit(book, "", "case", ""), [2])
        self.assertEqual(self.nodes_that_fit(book, "case", "case", ""), [2])
        self.assertEqual(self.nodes_that_fit(book, "body", "body", ""), [])

    def test_not_within_one_that_stands_beside_or_hangs_in_it(self):
        book = made_book(body(node(0, "shelf"), node(1, "case"), node(0, "case"), node(3, "shelf"), node(4, "case")))
        self.assertEqual(self.nodes_that_fit(book, "", "shelf", ""), [2, 5])

    def test_together(self):
        book = made_book(body(
            node(0, "case", "", ["m"]), node(1, "text", "", ["m"]), node(1, "text"), node(1, "head", "", ["m"]),
            node(0, "text", "", ["m"]), node(0, "case", "", ["m", "n"]), node(6, "text", "", ["k", "m"]),
        ))
        self.assertEqual(self.nodes_that_fit(book, "text", "case", "m"), [2, 7])
        self.assertEqual(self.nodes_that_fit(book, "text", "case", ""), [2, 3, 7])
        self.assertEqual(self.nodes_that_fit(book, "text", "", "m"), [2, 5, 7])
        self.assertEqual(self.nodes_that_fit(book, "", "case", "m"), [2, 4, 7])
        self.assertEqual(self.nodes_that_fit(book, "head", "case", "n"), [])
        self.assertEqual(self.nodes_that_fit(book, "case", "body", "n"), [6])

    def test_rank_and_sets_count_nowhere(self):
        book = made_book(body(node(0, "case")))
        for rank in (0, 9):
            for sets in ([("face", 0)], [("wide", 4000), ("fresh", 1)]):
                self.assertIs(fits(book=book, rule=(rank, "case", "", "", sets), node=1), True)
                self.assertIs(fits(book, (rank, "case", "", "", sets), 0), False)


class LookAt(Untouched):
    def test_each_property(self):
        looks = [[100 * line + place for place in range(13)] for line in range(3)]
        for line in range(3):
            for place, name in enumerate(PROPERTIES):
                self.assertEqual(self.ask(look_at, looks, line, name), 100 * line + place)
        self.assertEqual(look_at(looks=looks, node=2, word="wide"), 211)


if __name__ == "__main__":
    unittest.main()
