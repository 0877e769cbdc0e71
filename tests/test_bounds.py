import random
import unittest
from fractions import Fraction
from math import ceil

from leafpress.books import made_book
from leafpress.bounds import all_bounds
from leafpress.faces import made_face
from leafpress.rules import look_at
from leafpress.units import all_units
from tests.helpers import (
    Untouched, any_book, any_faces, any_looks, body, node, note_piece, plain_looks, rich_nodes, share_a_list, word,
)


def any_wide(*wides):
    """Units of these widths, with blanks of 2."""
    return [(wide, 2, 10, place, []) for place, wide in enumerate(wides)]


class Bounds(Untouched):
    def bounds(self, nodes, told=None, units=None):
        """Bounds of a book, units being told for some nodes; others with units have one of 10."""
        book = made_book(nodes)
        given = [any_wide(10) if one[1] in ("text", "head", "note") else [] for one in book]
        for number, one in (units or {}).items():
            given[number] = one
        return self.every(book, plain_looks(len(book), told), given)

    def every(self, book, looks, units):
        told = self.ask(all_bounds, book, looks, units)
        self.assertEqual([type(told), len(told)], [list, len(book)])
        for one in told:
            self.assertEqual([type(one)] + [type(part) for part in one], [tuple, int, int])
        return told


class Texts(Bounds):
    def test_one_unit(self):
        for kind in ("text", "head"):
            self.assertEqual(self.bounds(body(node(0, kind)), units={1: [(17, 5, 9, 0, [])]})[1], (17, 17))

    def test_several_units(self):
        units = [(17, 5, 9, 0, []), (30, 7, 9, 1, [3]), (4, 100, 9, 2, [])]
        for kind in ("text", "head"):
            self.assertEqual(self.bounds(body(node(0, kind)), units={1: units})[1], (30, 63))

    def test_the_blank_of_the_last_one_does_not_count(self):
        self.assertEqual(self.bounds(body(node(0, "text")), units={1: [(3, 50, 1, 0, [])]})[1], (3, 3))
        self.assertEqual(self.bounds(body(node(0, "text")), units={1: [(3, 50, 1, 0, []), (2, 7, 1, 1, [])]})[1], (3, 55))

    def test_notes(self):
        nodes = body(node(0, "text", stuff=[word(), note_piece(0)]), node(1, "note"))
        self.assertEqual(self.bounds(nodes, {2: {"inset": 5}}, {2: any_wide(300, 100)}), [(10, 10), (10, 10), (310, 412)])

    def test_insets(self):
        for inset in (1, 25, 400):
            for kind in ("text", "head"):
                told = self.bounds(body(node(0, kind)), {1: {"inset": inset}}, {1: any_wide(17, 30)})
                self.assertEqual(told[1], (30 + 2 * inset, 49 + 2 * inset))

    def test_units_are_taken_as_they_are_told(self):
        told = self.bounds(body(node(0, "text")), units={1: [(9, 1, 1, 30, [9]), (8, 1, 1, 2, [])] * 50})
        self.assertEqual(told[1], (9, 850 + 99))


class Pictures(Bounds):
    def test_its_width(self):
        self.assertEqual(self.bounds(body(node(0, "picture", stuff=[30, 20])))[1], (30, 30))
        self.assertEqual(self.bounds(body(node(0, "picture", stuff=[2000, 1])))[1], (2000, 2000))

    def test_without_insets(self):
        self.assertEqual(self.bounds(body(node(0, "picture")), {1: {"inset": 7, "wide": 99, "least": 500}})[1], (30, 30))


class Piles(Bounds):
    """Bodies, cases and asides."""

    def test_an_empty_case(self):
        self.assertEqual(self.bounds(body(node(0, "case"))), [(0, 0), (0, 0)])
        self.assertEqual(self.bounds(body(node(0, "case")), {1: {"inset": 3}}), [(6, 6), (6, 6)])

    def test_the_greatest_of_each(self):
        nodes = body(node(0, "case"), node(1, "text"), node(1, "picture", stuff=[30, 9]), node(1, "head"))
        units = {2: any_wide(20, 20, 20), 4: any_wide(25)}
        self.assertEqual(self.bounds(nodes, units=units)[:2], [(30, 64), (30, 64)])
        self.assertEqual(self.bounds(nodes, {0: {"inset": 1}, 1: {"inset": 10}}, units)[:2], [(52, 86), (50, 84)])

    def test_insets_of_what_they_hold_count(self):
        nodes = body(node(0, "text"), node(0, "text"))
        self.assertEqual(self.bounds(nodes, {1: {"inset": 4}}, {2: any_wide(12)}), [(18, 18), (18, 18), (12, 12)])

    def test_notes_do_not_count(self):
        nodes = body(node(0, "head", stuff=[word(), note_piece(0)]), node(1, "note"))
        self.assertEqual(self.bounds(nodes, {2: {"inset": 99}}, {2: any_wide(500)})[:2], [(10, 10), (10, 10)])

    def test_least_most_and_weight_do_not_count(self):
        nodes = body(node(0, "case"), node(1, "text"))
        self.assertEqual(self.bounds(nodes, {1: {"least": 90, "most": 2}, 2: {"least": 90, "most": 2, "weight": 9}}),
                         [(10, 10)] * 3)

    def test_an_aside_by_itself(self):
        nodes = body(node(0, "aside"), node(1, "text"), node(1, "picture", stuff=[30, 9]), node(0, "text"))
        told = self.bounds(nodes, {1: {"inset": 4, "wide": 7}}, {2: any_wide(20, 20)})
        self.assertEqual(told[1], (38, 50))

    def test_an_aside_that_a_body_or_a_case_holds(self):
        for wide in (1, 9, 10, 11, 4000):
            nodes = body(node(0, "aside"), node(1, "text"), node(0, "text"))
            told = self.bounds(nodes, {1: {"wide": wide, "inset": 50}}, {2: any_wide(5000)})
            self.assertEqual(told, [(max(wide, 10),) * 2, (5100, 5100), (5000, 5000), (10, 10)])
            nodes = body(node(0, "case"), node(1, "aside"), node(2, "text"), node(1, "text"))
            told = self.bounds(nodes, {1: {"inset": 2}, 2: {"wide": wide, "inset": 50}}, {3: any_wide(5000)})
            self.assertEqual(told[:3], [(max(wide, 10) + 4,) * 2, (max(wide, 10) + 4,) * 2, (5100, 5100)])

    def test_wide_counts_of_asides_alone(self):
        self.assertEqual(self.bounds(body(node(0, "case"), node(1, "text")), {1: {"wide": 900}, 2: {"wide": 900}}),
                         [(10, 10)] * 3)


class Shelves(Bounds):
    def shelf(self, told=None, units=None, shelf=None):
        """The bounds of a shelf of two texts, 1 and 2 being what is told of these."""
        looks = {number + 1: one for number, one in (told or {}).items()}
        looks[1] = shelf or {}
        nodes = body(node(0, "shelf"), node(1, "text"), node(1, "text"))
        return self.bounds(nodes, looks, {number + 1: one for number, one in (units or {}).items()})[1]

    def test_all_together(self):
        self.assertEqual(self.shelf(), (20, 20))
        self.assertEqual(self.shelf(units={1: any_wide(5, 6), 2: any_wide(30)}), (36, 43))

    def test_insets(self):
        self.assertEqual(self.shelf(shelf={"inset": 7}), (34, 34))
        self.assertEqual(self.shelf({1: {"inset": 3}}, shelf={"inset": 7}), (40, 40))

    def test_a_least_above_the_low(self):
        self.assertEqual(self.shelf({1: {"least": 11}}, {1: any_wide(10, 10)}), (21, 32))
        self.assertEqual(self.shelf({1: {"least": 22}}, {1: any_wide(10, 10)}), (32, 32))
        self.assertEqual(self.shelf({1: {"least": 23}}, {1: any_wide(10, 10)}), (33, 33))
        self.assertEqual(self.shelf({1: {"least": 4000}, 2: {"least": 9}}, {1: any_wide(10, 10)}), (4010, 4010))

    def test_a_least_that_is_not_above_the_low(self):
        self.assertEqual(self.shelf({1: {"least": 9}, 2: {"least": 10}}, {1: any_wide(10, 10)}), (20, 32))

    def test_a_most(self):
        for most, great in ((21, 21), (22, 22), (23, 22), (15, 15), (10, 10)):
            self.assertEqual(self.shelf({1: {"most": most}}, {1: any_wide(10, 10)}), (20, great + 10))

    def test_a_most_below_the_floor(self):
        for most in (0, 1, 9):
            self.assertEqual(self.shelf({1: {"most": most}}, {1: any_wide(10, 10)}), (20, 20))
        self.assertEqual(self.shelf({1: {"least": 30, "most": 20}}, {1: any_wide(10, 10)}), (40, 40))
        self.assertEqual(self.shelf({1: {"least": 15, "most": 14}}, {1: any_wide(10, 10)}), (25, 25))

    def test_a_most_and_a_least(self):
        self.assertEqual(self.shelf({1: {"least": 12, "most": 15}}, {1: any_wide(10, 10)}), (22, 25))
        self.assertEqual(self.shelf({1: {"least": 12, "most": 25}}, {1: any_wide(10, 10)}), (22, 32))

    def test_a_most_is_4000_where_nothing_tells_it(self):
        self.assertEqual(self.shelf(units={1: any_wide(*[100] * 45)}), (110, 4010))
        self.assertEqual(self.shelf(units={1: any_wide(4500, 4500)}), (4510, 4510))

    def test_weights_do_not_count(self):
        self.assertEqual(self.shelf({1: {"weight": 9}}), (20, 20))

    def test_the_floors_are_of_those_that_it_holds(self):
        self.assertEqual(self.shelf(shelf={"least": 99, "most": 1}), (20, 20))

    def test_pictures_cases_shelves_and_grids(self):
        nodes = body(node(0, "shelf"), node(1, "picture"), node(1, "case"), node(1, "shelf"), node(4, "picture"),
                     node(1, "grid"), node(6, "picture"))
        told = {2: {"least": 31}, 3: {"inset": 4}, 4: {"inset": 1}, 5: {"least": 50}, 6: {"columns": 3, "most": 5}}
        self.assertEqual(self.bounds(nodes, told)[1:], [(31 + 8 + 52 + 90,) * 2, (30, 30), (8, 8), (52, 52), (30, 30),
                                                       (90, 90), (30, 30)])


class Grids(Bounds):
    def grid(self, columns, spans, wides, inset=0):
        """The bounds of a grid of texts whose bounds are told as wides."""
        nodes = body(node(0, "grid"), *[node(1, "text") for span in spans])
        looks = {number: {"span": span} for number, span in enumerate(spans, start=2)}
        looks[1] = {"columns": columns, "inset": inset, "span": 6}
        units = {number: [(low, great - low - 1, 9, 0, []), (1, 0, 9, 1, [])] if great > low else any_wide(low)
                 for number, (low, great) in enumerate(wides, start=2)}
        return self.bounds(nodes, looks, units)[1]

    def test_one_cell(self):
        for columns in range(1, 7):
            self.assertEqual(self.grid(columns, [1], [(20, 41)]), (20 * columns, 41 * columns))

    def test_two_columns_where_nothing_tells_it(self):
        self.assertEqual(self.bounds(body(node(0, "grid"), node(1, "text")))[1], (20, 20))

    def test_the_greatest_of_each(self):
        self.assertEqual(self.grid(3, [1, 1, 1, 1], [(20, 30), (10, 40), (21, 23), (1, 1)]), (63, 120))

    def test_insets(self):
        self.assertEqual(self.grid(3, [1], [(20, 30)], inset=4), (68, 98))

    def test_spans(self):
        self.assertEqual(self.grid(4, [2], [(20, 30)]), (40, 60))
        self.assertEqual(self.grid(4, [4], [(20, 40)]), (20, 40))
        self.assertEqual(self.grid(6, [3, 2], [(30, 33), (18, 40)]), (60, 120))

    def test_divisions_are_rounded_up(self):
        self.assertEqual(self.grid(4, [3], [(20, 31)]), (28, 44))
        self.assertEqual(self.grid(4, [3], [(21, 30)]), (28, 40))
        self.assertEqual(self.grid(4, [3], [(22, 33)]), (32, 44))
        self.assertEqual(self.grid(2, [2], [(1, 1)]), (2, 2))
        self.assertEqual(self.grid(6, [5], [(1, 6)]), (6, 12))
        self.assertEqual(self.grid(6, [5, 4], [(26, 31), (21, 33)]), (36, 54))

    def test_spans_beyond_the_columns(self):
        for span in (2, 3, 6):
            self.assertEqual(self.grid(2, [span], [(20, 31)]), (20, 32))
            self.assertEqual(self.grid(1, [span], [(20, 31)]), (20, 31))

    def test_the_span_is_that_of_the_cells(self):
        nodes = body(node(0, "grid"), node(1, "text"))
        self.assertEqual(self.bounds(nodes, {1: {"span": 3, "columns": 3}, 2: {"columns": 1, "deep": 4}})[1], (30, 30))

    def test_least_and_most_do_not_count(self):
        nodes = body(node(0, "grid"), node(1, "text"))
        self.assertEqual(self.bounds(nodes, {2: {"least": 99, "most": 1}})[1], (20, 20))


class Books(Bounds):
    def test_an_ordinary_book(self):
        book = made_book(rich_nodes())
        units = all_units(book, plain_looks(15), [made_face(10, 4, 6)], [])
        told = self.every(book, plain_looks(15, {3: {"wide": 30}, 9: {"inset": 1}}), units)
        self.assertEqual(told, [
            (30, 44), (18, 28), (18, 28), (1, 1), (1, 1), (0, 0), (18, 44), (6, 6), (6, 6), (20, 20), (12, 12), (6, 6),
            (6, 6), (6, 6), (0, 0),
        ])

    def test_by_name(self):
        book = made_book(body(node(0, "picture")))
        self.assertEqual(all_bounds(book=book, looks=plain_looks(2), units=[[], []]), [(30, 30), (30, 30)])

    def test_what_is_told_is_its_own(self):
        book = made_book(body(node(0, "text")))
        units = [[], any_wide(4)]
        first = all_bounds(book, plain_looks(2), units)
        self.assertFalse(share_a_list(first, all_bounds(book, plain_looks(2), units), book, units))
        first.clear()
        self.assertEqual(all_bounds(book, plain_looks(2), units), [(4, 4), (4, 4)])


class AnyBounds(Bounds):
    def right(self, book, looks, units, number):
        """The bounds of one node, once more, each time by those of what it holds."""
        kind = book[number][1]
        held = [k for k, one in enumerate(book) if one[0] == number and one[1] != "note"]
        inside = {one: self.right(book, looks, units, one) for one in held}
        both = 2 * look_at(looks, number, "inset")
        if kind == "picture":
            return (book[number][4][0],) * 2
        if units[number]:
            row = [length for unit in units[number] for length in unit[:2]][:-1]
            return (max(row[::2]) + both, sum(row) + both)
        if kind == "shelf":
            floors = [max(inside[one][0], look_at(looks, one, "least")) for one in held]
            roofs = [max(floor, look_at(looks, one, "most")) for one, floor in zip(held, floors)]
            wishes = [sorted([floor, inside[one][1], roof])[1] for one, floor, roof in zip(held, floors, roofs)]
            return (sum(floors) + both, sum(wishes) + both)
        if kind == "grid":
            columns = look_at(looks, number, "columns")
            parts = [min(columns, look_at(looks, one, "span")) for one in held]
            return tuple(columns * ceil(max(Fraction(inside[one][which], part) for one, part in zip(held, parts))) + both
                         for which in (0, 1))
        for one in held:
            if book[one][1] == "aside":
                inside[one] = (look_at(looks, one, "wide"),) * 2
        return tuple(max([0] + [inside[one][which] for one in held]) + both for which in (0, 1))

    def test_each_node(self):
        for seed in range(120):
            chance = random.Random(seed)
            book = any_book(chance)
            looks = any_looks(chance, len(book))
            units = all_units(book, looks, any_faces(chance), [("one", "1")])
            told = self.every(book, looks, units)
            for number in range(len(book)):
                self.assertEqual(told[number], self.right(book, looks, units, number), (seed, number))


if __name__ == "__main__":
    unittest.main()
