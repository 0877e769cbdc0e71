import random
import unittest

from leafpress.books import made_book
from leafpress.overwinners import winners_hold
from leafpress.rules import PROPERTIES, made_rules
from leafpress.winners import winners
from tests.helpers import Untouched, any_book, any_rule, body, deep_nodes, node, note_piece, word

RULES = [
    (0, "", "", "", [("above", 3), ("wide", 7)]),
    (5, "text", "", "", [("above", 4), ("face", 2)]),
    (5, "text", "shelf", "", [("above", 5)]),
    (1, "", "", "big", [("face", 9), ("fresh", 1)]),
    (5, "", "case", "", [("inset", 6), ("align", 3)]),
    (5, "", "case", "", [("inset", 8)]),
]


class Looking(Untouched):
    def holds(self, book, rules, paper):
        self.assertIs(self.ask(winners_hold, book, rules, paper), True)

    def holds_not(self, book, rules, paper):
        self.assertIs(self.ask(winners_hold, book, rules, paper), False, paper)


class WinnersHold(Looking):
    def setUp(self):
        self.book = made_book(body(
            node(0, "head", "", ["big"], [word(), note_piece(0)]), node(1, "note"), node(0, "case"),
            node(3, "text", "", ["big"]), node(3, "shelf"), node(5, "text"), node(0, "text"),
        ))
        self.rules = made_rules(RULES)
        self.paper = winners(self.book, self.rules)

    def no(self, paper):
        self.assertNotEqual(paper, self.paper)
        self.holds_not(self.book, self.rules, paper)

    def no_row(self, place, row):
        """The paper with another row at a place is none; asked without more ado, as there are many of these."""
        paper = self.paper[:place] + [row] + self.paper[place + 1:]
        self.assertNotEqual(paper, self.paper)
        self.assertIs(winners_hold(self.book, self.rules, paper), False, row)

    def test_what_winners_tells(self):
        whys = {row[2] for row in self.paper}
        self.assertEqual(whys, {("own",)} | {("rule", k) for k in range(6)} | {("elder", k) for k in (0, 1, 3)})
        self.holds(self.book, self.rules, self.paper)
        self.assertIs(winners_hold(book=self.book, rules=self.rules, paper=list(self.paper)), True)
        for nodes in (body(node(0, "text")), deep_nodes(), body(*[node(0, "text") for k in range(59)])):
            for rules in ([], RULES, RULES[3:], [(0, "", "", "", [("face", 1)])] * 40):
                self.holds(made_book(nodes), rules, winners(made_book(nodes), rules))

    def test_written_out(self):
        book = made_book(body(node(0, "text")))
        rules = [(0, "text", "", "", [("above", 5)])]
        paper = []
        for number in (0, 1):
            for name, value in zip(PROPERTIES, [0, 0, 0, 0, 1, 0, 4000, 2, 1, 1, 0, 100, 0]):
                paper.append((number, name, ("own",), value))
        paper[13:16] = [(1, "face", ("elder", 0), 0), (1, "align", ("elder", 0), 0), (1, "above", ("rule", 0), 5)]
        self.holds(book, rules, paper)
        self.holds_not(book, [], paper)
        self.holds_not(book, [(0, "head", "", "", [("above", 5)])], paper)

    def test_a_row_left_out(self):
        for place in range(len(self.paper)):
            self.no(self.paper[:place] + self.paper[place + 1:])

    def test_a_row_twice(self):
        for place in range(len(self.paper)):
            self.no(self.paper[:place] + [self.paper[place]] + self.paper[place:])

    def test_two_rows_in_each_others_place(self):
        for first in range(len(self.paper)):
            for second in (first + 1, first + 13, len(self.paper) - 1):
                if first < second < len(self.paper):
                    other = list(self.paper)
                    other[first], other[second] = other[second], other[first]
                    self.no(other)

    def test_another_value(self):
        for place, (number, name, why, value) in enumerate(self.paper):
            for other in (value - 1, value + 1, -value - 1, 10 ** 30):
                self.no_row(place, (number, name, why, other))

    def test_another_node(self):
        for place, (number, name, why, value) in enumerate(self.paper):
            for other in (number - 1, number + 1, -1, 99, number - len(self.book)):
                if other != number:
                    self.no_row(place, (other, name, why, value))

    def test_another_property(self):
        for place, (number, name, why, value) in enumerate(self.paper):
            for other in PROPERTIES + ("", "colour", "faces"):
                if other != name:
                    self.no_row(place, (number, other, why, value))

    def test_another_sort_of_why(self):
        for place, (number, name, why, value) in enumerate(self.paper):
            others = [("own",), ("rule",), ("elder",), ("",), ("none",), ("own", 0), ("own", -1), ("none", 0)]
            others += [("elder", 0), ("elder", self.book[number][0]), ("rule", 0), ("rule", 1)]
            others += [("rule", why[-1]), ("elder", why[-1])] if len(why) == 2 else []
            for other in others:
                if other != why:
                    self.no_row(place, (number, name, other, value))

    def test_another_rule(self):
        for place, (number, name, why, value) in enumerate(self.paper):
            for other in list(range(-len(RULES) - 1, len(RULES) + 2)) + [10 ** 30]:
                if ("rule", other) != why:
                    self.no_row(place, (number, name, ("rule", other), value))

    def test_another_elder(self):
        for place, (number, name, why, value) in enumerate(self.paper):
            for other in list(range(-len(self.book) - 1, len(self.book) + 2)) + [10 ** 30]:
                if ("elder", other) != why:
                    self.no_row(place, (number, name, ("elder", other), value))

    def test_papers_of_another_length(self):
        self.no([])
        for number in range(1, len(self.book)):
            self.no(self.paper[:13 * number])
            self.no(self.paper[13 * number:])
        self.no(self.paper + [self.paper[-1]])
        self.no(self.paper + [self.paper[0]])
        self.no(self.paper + [(len(self.book), "face", ("elder", 0), 0)])
        self.no(self.paper + [(len(self.book), name, ("own",), 0) for name in PROPERTIES])
        self.no(self.paper + self.paper)
        self.no(list(reversed(self.paper)))
        self.no(self.paper * 100)

    def test_the_paper_of_another_book(self):
        other = made_book(body(*[node(0, "case") for k in range(len(self.book) - 1)]))
        self.no(winners(other, self.rules))
        self.no(winners(self.book, self.rules[1:]))
        self.no(winners(self.book, []))


class Elders(Looking):
    """Values that are handed down, told wrongly, but all of them alike."""

    def test_from_node_0_on(self):
        book = made_book(deep_nodes())
        for name in ("face", "align"):
            paper = [(row[0], row[1], row[2], 1) if row[1] == name else row for row in winners(book, [])]
            self.holds_not(book, [], paper)
            self.holds(book, [(0, "body", "", "", [(name, 1)])], [(0, name, ("rule", 0), 1) if row[:2] == (0, name)
                                                                 else row for row in paper])

    def test_from_a_rule_on(self):
        book = made_book(deep_nodes())
        rules = [(0, "case", "", "", [("face", 4)])]
        paper = winners(book, rules)
        self.holds(book, rules, paper)
        self.holds_not(book, rules, [row[:3] + (5,) if row[3] == 4 else row for row in paper])

    def test_from_one_in_the_middle_on(self):
        book = made_book(deep_nodes())
        paper = winners(book, [])
        self.holds_not(book, [], [row[:3] + (5,) if row[1] == "face" and row[0] >= 3 else row for row in paper])
        self.holds_not(book, [], [row[:3] + (5,) if row[:2] == (6, "face") else row for row in paper])

    def test_the_value_of_the_elder_and_not_of_node_0(self):
        book = made_book(body(node(0, "case"), node(1, "text", stuff=[word(), note_piece(0)]), node(2, "note")))
        rules = [(0, "case", "", "", [("face", 4)])]
        paper = winners(book, rules)
        for number, right in ((2, 4), (3, 4)):
            for value in (0, 4):
                other = list(paper)
                other[13 * number] = (number, "face", ("elder", book[number][0]), value)
                self.assertIs(winners_hold(book, rules, other), value == right)


class GoesBefore(Looking):
    def setUp(self):
        self.book = made_book(body(node(0, "case"), node(1, "text", "", ["m"])))

    def ordered(self, loser, winner, place=2):
        """Of two rules in either order, the paper may name the winner alone, whatever values they set."""
        for values in ((8, 9), (8, 8)):
            loses = loser + ([("above", values[0])],)
            wins = winner + ([("above", values[1])],)
            for rules, lost in ([[loses, wins], 0], [[wins, loses], 1])[:place]:
                paper = winners(self.book, rules)
                row = (2, "above", ("rule", 1 - lost), values[1])
                self.assertEqual(paper[28], row)
                self.holds(self.book, rules, paper)
                for why, value in ((lost, values[0]), (lost, values[1]), (1 - lost, values[0])):
                    other = paper[:28] + [(2, "above", ("rule", why), value)] + paper[29:]
                    if other != paper:
                        self.holds_not(self.book, rules, other)

    def test_by_rank(self):
        self.ordered((0, "", "", ""), (1, "", "", ""))
        self.ordered((8, "text", "case", "m"), (9, "text", "", ""))

    def test_by_conditions(self):
        self.ordered((3, "", "", ""), (3, "text", "", ""))
        self.ordered((3, "", "", ""), (3, "", "case", ""))
        self.ordered((3, "", "", ""), (3, "", "", "m"))
        self.ordered((3, "text", "", ""), (3, "", "body", "m"))
        self.ordered((3, "text", "case", ""), (3, "text", "case", "m"))

    def test_by_place(self):
        self.ordered((3, "", "", ""), (3, "", "", ""), 1)
        self.ordered((3, "text", "", ""), (3, "", "case", ""), 1)
        self.ordered((3, "", "case", "m"), (3, "text", "", "m"), 1)

    def test_among_many(self):
        rules = [(2, "text", "", "", [("above", k)]) for k in range(40)]
        paper = winners(self.book, rules)
        self.holds(self.book, rules, paper)
        for k in range(39):
            self.holds_not(self.book, rules, paper[:28] + [(2, "above", ("rule", k), k)] + paper[29:])

    def test_a_rule_that_does_not_fit_or_set_it(self):
        rules = [(0, "", "", "", [("above", 5)]), (9, "head", "", "", [("above", 6)]), (9, "", "aside", "", [("above", 6)]),
                 (9, "", "", "n", [("above", 6)]), (9, "text", "", "", [("inset", 6)])]
        paper = winners(self.book, rules)
        self.assertEqual(paper[28], (2, "above", ("rule", 0), 5))
        self.holds(self.book, rules, paper)
        for k in range(1, 5):
            for value in (5, 6):
                self.holds_not(self.book, rules, paper[:28] + [(2, "above", ("rule", k), value)] + paper[29:])
        self.holds_not(self.book, rules[1:], paper)

    def test_a_rule_in_the_place_of_nothing_told(self):
        paper = winners(self.book, [])
        for name in PROPERTIES:
            rules = [(0, "text", "", "", [(name, paper[PROPERTIES.index(name)][3])])]
            self.holds_not(self.book, rules, paper)
            self.holds_not(self.book, [], winners(self.book, rules))


class AnyPapers(Looking):
    def changed(self, chance, paper, rules):
        other = list(paper)
        for k in range(chance.randint(1, 2)):
            place = chance.randrange(len(other))
            number, name, why, value = other[place]
            other[place] = chance.choice([
                (number, name, why, value + chance.choice([-1, 1])),
                (number, name, ("rule", chance.randint(-1, len(rules))), value),
                (number, name, ("elder", chance.randint(-1, number)), value),
                (number, name, ("own",), value),
                (number, name) + chance.choice(paper)[2:],
                chance.choice(paper),
            ])
        return other

    def test_that_of_winners_alone(self):
        for seed in range(80):
            chance = random.Random(seed)
            book = any_book(chance)
            rules = [any_rule(chance) for k in range(chance.choice([0, 1, 5, 20, 40]))]
            paper = winners(book, rules)
            self.holds(book, rules, paper)
            for k in range(20):
                other = self.changed(chance, paper, rules)
                self.assertIs(winners_hold(book, rules, other), other == paper, (seed, k))


if __name__ == "__main__":
    unittest.main()
