import random
import unittest

from leafpress.books import made_book
from leafpress.rules import PROPERTIES, look_at, made_rules
from leafpress.winners import looks_of, winners
from tests.helpers import (
    BOUNDS, UNTOLD, Untouched, any_book, any_rule, body, deep_nodes, lists_in, node, note_piece, rich_nodes, share_a_list,
    word,
)


class Papers(Untouched):
    """Tests that ask for papers, and look each time whether they have the form of one."""

    def paper(self, book, rules):
        told = self.ask(winners, book, made_rules(rules))
        self.assertIs(type(told), list)
        self.assertEqual([row[:2] for row in told], [(k, name) for k in range(len(book)) for name in PROPERTIES])
        for row in told:
            self.assertEqual([type(row)] + [type(one) for one in row], [tuple, int, str, tuple, int])
        return told

    def found(self, book, rules, number, name):
        """Why and value of one row."""
        return self.paper(book, rules)[number * 13 + PROPERTIES.index(name)][2:]

    def chosen(self, *rules):
        """Which of some rules wins for a text in a case that has the mark m."""
        book = made_book(body(node(0, "case"), node(1, "text", "", ["m"])))
        why, value = self.found(book, [one + ([("above", 10 + k)],) for k, one in enumerate(rules)], 2, "above")
        self.assertEqual(why[0], "rule")
        self.assertEqual(value, 10 + why[1])
        return why[1]


class Winners(Papers):
    def test_no_rules(self):
        book = made_book(body(node(0, "case"), node(1, "text")))
        paper = self.paper(book, [])
        for number, elder in ((0, None), (1, 0), (2, 1)):
            for place, name in enumerate(PROPERTIES):
                why = ("elder", elder) if name in ("face", "align") and number > 0 else ("own",)
                self.assertEqual(paper[number * 13 + place], (number, name, why, UNTOLD[place]))

    def test_rank_goes_first(self):
        self.assertEqual(self.chosen((1, "", "", ""), (0, "text", "case", "m")), 0)
        self.assertEqual(self.chosen((0, "text", "case", "m"), (1, "", "", "")), 1)
        self.assertEqual(self.chosen((8, "text", "case", "m"), (9, "", "", ""), (8, "text", "case", "m")), 1)

    def test_conditions_go_next(self):
        told = [("", "", ""), ("text", "", ""), ("text", "case", ""), ("text", "case", "m")]
        for more in range(4):
            for fewer in range(more):
                self.assertEqual(self.chosen((3,) + told[more], (3,) + told[fewer]), 0)
                self.assertEqual(self.chosen((3,) + told[fewer], (3,) + told[more]), 1)

    def test_all_conditions_count_alike(self):
        one = [("text", "", ""), ("", "case", ""), ("", "body", ""), ("", "", "m")]
        two = [("text", "case", ""), ("text", "", "m"), ("", "case", "m")]
        for alike in (one, two):
            for first in alike:
                for second in alike:
                    self.assertEqual(self.chosen((3,) + first, (3,) + second), 1)
        for more in two:
            for fewer in one:
                self.assertEqual(self.chosen((3,) + more, (3,) + fewer), 0)

    def test_the_last_one_goes_next(self):
        self.assertEqual(self.chosen((2, "text", "", ""), (2, "text", "", ""), (2, "text", "", "")), 2)
        self.assertEqual(self.chosen((2, "", "", "m"), (2, "", "case", ""), (2, "", "", ""), (1, "text", "", "m")), 1)
        self.assertEqual(self.chosen(*[(0, "", "", "")] * 40), 39)

    def test_rules_that_do_not_fit_never_win(self):
        self.assertEqual(self.chosen((0, "", "", ""), (9, "head", "", ""), (9, "", "aside", ""), (9, "", "", "n")), 0)

    def test_rules_that_do_not_set_it_never_win(self):
        book = made_book(body(node(0, "text")))
        rules = [(0, "", "", "", [("above", 5), ("inset", 6)]), (9, "text", "", "", [("inset", 7)])]
        self.assertEqual(self.found(book, rules, 1, "above"), (("rule", 0), 5))
        self.assertEqual(self.found(book, rules, 1, "inset"), (("rule", 1), 7))
        self.assertEqual(self.found(book, rules, 0, "inset"), (("rule", 0), 6))
        self.assertEqual(self.found(book, rules, 1, "wide"), (("own",), 100))

    def test_each_property(self):
        book = made_book(body(node(0, "text")))
        for place, name in enumerate(PROPERTIES):
            for value in BOUNDS[place]:
                for number in (0, 1):
                    self.assertEqual(self.found(book, [(0, "", "", "", [(name, value)])], number, name),
                                     (("rule", 0), value))

    def test_all_properties_of_one_rule(self):
        sets = [(name, BOUNDS[place][1]) for place, name in enumerate(PROPERTIES)]
        for told in (sets, list(reversed(sets))):
            paper = self.paper(made_book(body(node(0, "case"))), [(4, "case", "", "", told)])
            self.assertEqual([row[2:] for row in paper[13:]], [(("rule", 0), high) for low, high in BOUNDS])
            self.assertEqual([row[2:] for row in paper[:13]], [(("own",), value) for value in UNTOLD])

    def test_what_a_rule_sets_to_the_untold_value_is_still_the_rules(self):
        book = made_book(body(node(0, "text")))
        rules = [(0, "", "", "", [(name, UNTOLD[place]) for place, name in enumerate(PROPERTIES)])]
        self.assertEqual({row[2] for row in self.paper(book, rules)}, {("rule", 0)})

    def test_handed_down_over_several_levels(self):
        book = made_book(deep_nodes())
        for place, name in enumerate(("face", "align")):
            paper = self.paper(book, [(0, "body", "", "", [(name, 3)])])
            self.assertEqual(paper[place][2:], (("rule", 0), 3))
            for number in range(1, 7):
                self.assertEqual(paper[number * 13 + place][2:], (("elder", number - 1), 3))

    def test_handed_down_from_the_nearest_one_that_is_told(self):
        book = made_book(body(
            node(0, "case", "", ["m"]), node(1, "shelf"), node(2, "text"), node(1, "text", stuff=[word(), note_piece(0)]),
            node(4, "note"), node(0, "text"),
        ))
        rules = [(0, "case", "", "", [("face", 7)]), (0, "shelf", "", "", [("face", 8)]),
                 (0, "body", "", "", [("align", 2)])]
        paper = self.paper(book, rules)
        self.assertEqual([row[2:] for row in paper if row[1] == "face"], [
            (("own",), 0), (("rule", 0), 7), (("rule", 1), 8), (("elder", 2), 8), (("elder", 1), 7), (("elder", 4), 7),
            (("elder", 0), 0),
        ])
        self.assertEqual([row[2:] for row in paper if row[1] == "align"], [(("rule", 2), 2)] + [
            (("elder", elder), 2) for elder in (0, 1, 2, 1, 4, 0)
        ])

    def test_a_rule_of_the_lowest_rank_goes_ahead_of_an_elder(self):
        book = made_book(body(node(0, "case"), node(1, "text")))
        rules = [(9, "case", "body", "", [("face", 7)]), (0, "", "", "", [("face", 1)])]
        self.assertEqual(self.found(book, rules, 2, "face"), (("rule", 1), 1))

    def test_what_is_not_handed_down(self):
        book = made_book(body(node(0, "case"), node(1, "text")))
        for place, name in enumerate(PROPERTIES[2:], start=2):
            value = BOUNDS[place][0] if BOUNDS[place][0] != UNTOLD[place] else BOUNDS[place][1]
            rules = [(0, "case", "", "", [(name, value)])]
            self.assertEqual(self.found(book, rules, 1, name), (("rule", 0), value))
            self.assertEqual(self.found(book, rules, 2, name), (("own",), UNTOLD[place]))

    def test_node_0_has_no_elder(self):
        paper = self.paper(made_book(rich_nodes()), [(0, "case", "", "", [("face", 5)])])
        self.assertEqual([row[2:] for row in paper[:2]], [(("own",), 0), (("own",), 0)])

    def test_what_is_told_is_its_own(self):
        book = made_book(rich_nodes())
        rules = made_rules([(0, "case", "", "", [("face", 5)])])
        first = winners(book=book, rules=rules)
        whole = list(first)
        first.clear()
        self.assertEqual(winners(book, rules), whole)
        self.assertEqual(book, rich_nodes())


class AnyWinners(Papers):
    """Papers of many books and rules, looked over row by row."""

    def fitting(self, book, rules, number, name):
        """Those rules that fit and set a property, as (rank, conditions, number, value), the winner last."""
        above, elder = [], book[number][0]
        while elder >= 0:
            above.append(book[elder][1])
            elder = book[elder][0]
        found = []
        for k, (rank, kind, within, mark, sets) in enumerate(rules):
            fit = kind in ("", book[number][1]) and within in [""] + above and mark in [""] + book[number][3]
            conditions = sum(told != "" for told in (kind, within, mark))
            found.extend((rank, conditions, k, value) for one, value in sets if one == name and fit)
        return sorted(found)

    def test_row_by_row(self):
        for seed in range(60):
            chance = random.Random(seed)
            book = any_book(chance)
            rules = [any_rule(chance) for k in range(chance.choice([0, 1, 5, 20, 40]))]
            paper = self.paper(book, rules)
            looks = looks_of(paper)
            for number, name, why, value in paper:
                found = self.fitting(book, rules, number, name)
                if found:
                    right = (("rule", found[-1][2]), found[-1][3])
                elif name in ("face", "align") and number > 0:
                    elder = book[number][0]
                    right = (("elder", elder), look_at(looks, elder, name))
                else:
                    right = (("own",), UNTOLD[PROPERTIES.index(name)])
                self.assertEqual((why, value), right, (seed, number, name))


class Looks(Papers):
    def test_the_values_in_order(self):
        book = made_book(rich_nodes())
        rules = [(0, "text", "", "", [("above", 9), ("inset", 8)]), (0, "", "", "big", [("face", 3), ("fresh", 1)])]
        paper = self.paper(book, rules)
        looks = self.ask(looks_of, paper)
        self.assertEqual([type(looks)] + [type(look) for look in looks], [list] * 16)
        self.assertEqual(looks, [[row[3] for row in paper[at:at + 13]] for at in range(0, len(paper), 13)])
        self.assertEqual(looks[0], UNTOLD)
        self.assertEqual(looks[6], [3, 0, 9, 8, 1, 0, 4000, 2, 1, 1, 0, 100, 1])

    def test_look_at_each_property(self):
        sets = [(name, BOUNDS[place][1]) for place, name in enumerate(PROPERTIES)]
        looks = looks_of(winners(made_book(body(node(0, "head"))), [(0, "head", "", "", sets)]))
        for place, name in enumerate(PROPERTIES):
            self.assertEqual(look_at(looks, 0, name), UNTOLD[place])
            self.assertEqual(look_at(looks, 1, name), BOUNDS[place][1])

    def test_sixty_nodes(self):
        book = made_book(body(*[node(0, "text") for k in range(59)]))
        looks = looks_of(paper=self.paper(book, [(0, "text", "", "", [("wide", 7)])]))
        self.assertEqual(looks, [UNTOLD] + [UNTOLD[:11] + [7, 0]] * 59)

    def test_what_is_told_is_its_own(self):
        paper = winners(made_book(rich_nodes()), [])
        first = looks_of(paper)
        second = looks_of(paper)
        self.assertFalse(share_a_list(paper, first, second))
        for one in lists_in(first):
            one.clear()
        self.assertEqual(looks_of(paper), second)


if __name__ == "__main__":
    unittest.main()
