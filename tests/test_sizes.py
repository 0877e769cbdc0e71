import copy
import random
import unittest

from leafpress.books import made_book
from leafpress.bounds import all_bounds
from leafpress.breaks import broken
from leafpress.grids import grid_places
from leafpress.rules import look_at
from leafpress.sizes import all_sizes
from leafpress.spans import all_spans
from leafpress.units import all_units
from tests.helpers import (
    Untouched, any_book, any_faces, any_looks, body, deep_nodes, node, note_piece, plain_looks, rich_nodes, share_a_list,
    units_of, word,
)

WITH_UNITS = ("text", "head", "note")
NOTED = [word(), note_piece(0)]


def rows_of(many, high=10):
    """Units that make so many rows in a width of 100, of which no two may stand on one row."""
    return units_of(*[90] * many, high=high)


class Sizes(Untouched):
    def sizes(self, nodes, told=None, units=None, spans=None):
        """The sizes of a book; units are one row, 10 high, and spans are (0, 100), where none are told."""
        book = made_book(nodes)
        given = [units_of(20) if one[1] in WITH_UNITS else [] for one in book]
        rooms = [(0, 100) for one in book]
        for number, own in (units or {}).items():
            given[number] = copy.deepcopy(own)
        for number, own in (spans or {}).items():
            rooms[number] = own
        return self.every(book, plain_looks(len(book), told), given, rooms)

    def every(self, book, looks, units, spans):
        told = self.ask(all_sizes, book, looks, units, spans)
        self.assertEqual([type(told), len(told)], [list, len(book)])
        for number, one in enumerate(told):
            self.assertEqual([type(one)] + [type(part) for part in one], [tuple, int, list, list, int])
            if book[number][1] not in WITH_UNITS:
                self.assertEqual(one[1:], ([], [], 0))
        self.assertFalse(share_a_list(told, all_sizes(book, looks, units, spans), book, looks, units, spans))
        return told

    def highs(self, nodes, told=None, units=None, spans=None):
        return [one[0] for one in self.sizes(nodes, told, units, spans)]


class Texts(Sizes):
    def test_one_row(self):
        for kind in ("text", "head"):
            self.assertEqual(self.sizes(body(node(0, kind)))[1], (10, [(0, 1)], [[0, None], [None, 0]], 0))

    def test_several_rows(self):
        units = units_of(40, 50, 60, 70, 20, blank=5, high=12)
        nodes = body(node(0, "text"), node(0, "head", stuff=NOTED), node(2, "note"))
        told = self.sizes(nodes, units={1: units, 2: units, 3: units})
        rows, sums = broken(units, 100)
        self.assertEqual(rows, [(0, 2), (2, 3), (3, 5)])
        self.assertEqual(told[1:], [(36, rows, sums, 0)] * 3)

    def test_as_high_as_the_highest_unit(self):
        units = units_of(90, high=7) + units_of(90, high=31) + units_of(90, high=8)
        self.assertEqual(self.highs(body(node(0, "text")), units={1: units}), [93, 93])

    def test_the_text_width(self):
        units = units_of(*[10] * 10)
        for inset, wide, rows in ((0, 100, 1), (0, 99, 2), (10, 100, 2), (25, 100, 2), (26, 100, 3), (0, 10, 10),
                                  (5, 110, 1), (5, 109, 2)):
            told = self.sizes(body(node(0, "text")), {1: {"inset": inset}}, {1: units}, {1: (7, wide)})
            self.assertEqual((told[1][0], len(told[1][1])), (10 * rows, rows), (inset, wide))
            self.assertEqual(told[1][1:3], broken(units, wide - 2 * inset))

    def test_insets_greater_than_the_wide(self):
        units = units_of(3, 4, 5)
        for inset, wide in ((50, 100), (51, 100), (400, 100), (1, 0), (0, 0)):
            told = self.sizes(body(node(0, "text")), {1: {"inset": inset}}, {1: units}, {1: (0, wide)})
            self.assertEqual(told[1], (30, [(0, 1), (1, 2), (2, 3)], broken(units, 0)[1], 0))
            self.assertEqual(told[1][2][3][3], 3000012)

    def test_a_unit_wider_than_the_text(self):
        self.assertEqual(self.highs(body(node(0, "text")), units={1: units_of(200, 5, 5)}), [20, 20])

    def test_the_insets_of_others_do_not_count(self):
        units = units_of(*[10] * 10)
        nodes = body(node(0, "case"), node(1, "text", stuff=NOTED), node(2, "note"))
        looks = {0: {"inset": 40}, 1: {"inset": 40}, 3: {"inset": 40}}
        self.assertEqual(self.highs(nodes, looks, {2: units}), [10, 10, 10, 10])

    def test_notes_count_nowhere(self):
        nodes = body(node(0, "text", stuff=NOTED), node(1, "note"), node(0, "head", stuff=NOTED), node(3, "note"))
        units = {1: rows_of(2), 2: rows_of(50), 4: rows_of(60)}
        self.assertEqual(self.highs(nodes, {2: {"above": 99}, 4: {"above": 99}}, units), [30, 20, 500, 10, 600])

    def test_notes_are_broken_in_their_own_width(self):
        nodes = body(node(0, "text", stuff=NOTED), node(1, "note"))
        units = {2: units_of(10, 10, 10, 10)}
        self.assertEqual(self.highs(nodes, {}, units, {2: (0, 20)}), [10, 10, 20])
        self.assertEqual(self.highs(nodes, {2: {"inset": 5}}, units, {2: (0, 20)}), [10, 10, 40])


class Boxes(Sizes):
    def test_pictures(self):
        nodes = body(node(0, "picture", stuff=[30, 20]), node(0, "picture", stuff=[2000, 1]))
        self.assertEqual(self.sizes(nodes), [(21, [], [], 0), (20, [], [], 0), (1, [], [], 0)])
        self.assertEqual(self.highs(body(node(0, "picture", stuff=[1, 2000])), {1: {"inset": 90}}), [2000, 2000])

    def test_shelves(self):
        nodes = body(node(0, "shelf"), node(1, "text"), node(1, "picture", stuff=[9, 35]), node(1, "case"))
        self.assertEqual(self.highs(nodes), [35, 35, 10, 35, 0])
        self.assertEqual(self.highs(nodes, units={2: rows_of(4)}), [40, 40, 40, 35, 0])
        self.assertEqual(self.highs(nodes, {2: {"above": 50}, 1: {"above": 60, "inset": 70}, 3: {"above": 9}}),
                         [35, 35, 10, 35, 0])
        self.assertEqual(self.highs(body(node(0, "shelf"), node(1, "case"))), [0, 0, 0])

    def test_empty_cases(self):
        self.assertEqual(self.sizes(body(node(0, "case"))), [(0, [], [], 0)] * 2)
        self.assertEqual(self.highs(body(node(0, "case"), node(0, "case")), {1: {"above": 3}, 2: {"above": 4}}), [4, 0, 0])

    def grid(self, columns, cells, others=None):
        """The highs of a grid of pictures, told as (span, deep, high)."""
        looks = {number + 2: {"span": span, "deep": deep, "above": 77}
                 for number, (span, deep, high) in enumerate(cells)}
        looks[1] = dict({"columns": columns}, **(others or {}))
        nodes = body(node(0, "grid"), *[node(1, "picture", stuff=[9, high]) for span, deep, high in cells])
        told = self.highs(nodes, looks)
        self.assertEqual(told[0], told[1])
        return told[1]

    def test_grids(self):
        self.assertEqual(self.grid(2, [(1, 1, 10), (1, 1, 30), (1, 1, 5)]), 35)
        self.assertEqual(self.grid(3, [(1, 1, 10), (1, 1, 30), (1, 1, 5)]), 30)
        self.assertEqual(self.grid(1, [(1, 1, 10), (1, 1, 30), (1, 1, 5)]), 45)
        self.assertEqual(self.grid(6, [(1, 1, 8)]), 8)
        self.assertEqual(self.grid(2, [(1, 1, 10), (2, 1, 30), (1, 1, 5)]), 40)
        self.assertEqual(self.grid(2, [(6, 1, 10), (6, 1, 30)], {"above": 9, "inset": 50}), 40)

    def test_two_columns_where_nothing_tells_it(self):
        nodes = body(node(0, "grid"), *[node(1, "picture", stuff=[9, 10]) for k in range(3)])
        self.assertEqual(self.highs(nodes)[1], 20)

    def test_grids_with_cells_over_several_rows(self):
        self.assertEqual(self.grid(2, [(1, 2, 50), (1, 1, 10), (1, 1, 20)]), 50)
        self.assertEqual(self.grid(2, [(1, 2, 30), (1, 1, 10), (1, 1, 20)]), 30)
        self.assertEqual(self.grid(2, [(1, 2, 25), (1, 1, 10), (1, 1, 20)]), 30)
        self.assertEqual(self.grid(2, [(1, 4, 50), (1, 1, 10)]), 50)
        self.assertEqual(self.grid(2, [(1, 2, 50), (1, 3, 60), (1, 1, 20)]), 70)
        self.assertEqual(self.grid(2, [(1, 2, 50), (1, 3, 80), (1, 1, 20), (2, 1, 7)]), 87)

    def test_a_grid_of_empty_cases(self):
        self.assertEqual(self.highs(body(node(0, "grid"), node(1, "case"), node(1, "case"))), [0, 0, 0, 0])

    def test_kinds_without_units(self):
        nodes = body(node(0, "case"), node(1, "shelf"), node(2, "grid"), node(3, "picture"), node(0, "aside"),
                     node(5, "case"), node(0, "text"))
        told = self.sizes(nodes)
        for number in (0, 1, 2, 3, 4, 5, 6):
            self.assertEqual(told[number][1:], ([], [], 0))
        self.assertEqual([one[0] for one in told], [30, 20, 20, 20, 20, 0, 0, 10])


class Piles(Sizes):
    def test_one_below_the_other(self):
        held = [node(0, "text"), node(0, "head"), node(0, "picture", stuff=[9, 35]), node(0, "text")]
        self.assertEqual(self.highs(body(*held), units={4: rows_of(3)}), [10 + 10 + 35 + 30, 10, 10, 35, 30])

    def test_aboves_but_of_the_first(self):
        held = [node(0, "text"), node(0, "head"), node(0, "picture", stuff=[9, 35]), node(0, "case")]
        looks = {0: {"above": 100}, 1: {"above": 50}, 2: {"above": 6}, 3: {"above": 7}, 4: {"above": 8}}
        self.assertEqual(self.highs(body(*held), looks)[0], 10 + 6 + 10 + 7 + 35 + 8)
        self.assertEqual(self.highs(body(node(0, "text")), {0: {"above": 9}, 1: {"above": 400}})[0], 10)

    def test_insets_add_nothing(self):
        self.assertEqual(self.highs(body(node(0, "case"), node(1, "text")), {0: {"inset": 9}, 1: {"inset": 5}}), [10] * 3)

    def test_cases(self):
        nodes = body(node(0, "case"), node(1, "text"), node(1, "text"), node(0, "case"), node(4, "text"), node(4, "text"))
        looks = {number: {"above": 10 ** k} for k, number in enumerate((2, 3, 4))}
        looks[6] = {"above": 300}
        self.assertEqual(self.highs(nodes, looks), [30 + 100 + 320, 30, 10, 10, 320, 10, 10])

    def test_asides_hold_piles_too(self):
        nodes = body(node(0, "aside"), node(1, "text"), node(1, "picture", stuff=[9, 35]), node(1, "head"), node(0, "text"))
        looks = {1: {"above": 300}, 2: {"above": 200}, 3: {"above": 4}, 4: {"above": 5}, 5: {"above": 100}}
        self.assertEqual(self.highs(nodes, looks), [64, 64, 10, 35, 10, 10])

    def test_within_one_another(self):
        self.assertEqual(self.highs(deep_nodes(), {6: {"above": 9}, 3: {"above": 9}}), [10] * 7)
        nodes = body(node(0, "shelf"), node(1, "grid"), node(2, "case"), node(3, "text"), node(3, "text"), node(2, "text"),
                     node(1, "text"), node(0, "case"), node(8, "shelf"), node(9, "picture", stuff=[1, 7]))
        looks = {2: {"columns": 1}, 5: {"above": 2}, 6: {"above": 2}, 8: {"above": 3}}
        self.assertEqual(self.highs(nodes, looks), [42, 32, 32, 22, 10, 10, 10, 10, 7, 7, 7])


class Asides(Sizes):
    def beside(self, high, rows, told=None, spans=None, row_high=10):
        """The body's high and the text's size, of an aside that is so high and a text of so many words."""
        held = node(1, "picture", stuff=[9, high]) if high else node(1, "case")
        looks = {1: {"above": 300}, 3: {"above": 200}}
        looks.update(told or {})
        rooms = {1: (0, 30)}
        rooms.update(spans or {})
        units = {3: units_of(*[35] * rows, high=row_high)}
        told = self.sizes(body(node(0, "aside"), held, node(0, "text")), looks, units, rooms)
        self.assertEqual(told[1], (high, [], [], 0))
        return (told[0][0], told[3])

    def test_rows_broken_beside_it(self):
        units = units_of(*[35] * 8)
        for high, count in ((1, 1), (9, 1), (10, 1), (11, 2), (20, 2), (21, 3), (30, 3), (31, 4)):
            told = self.beside(high, 8)
            rows, sums = broken(units, 100, (count, 30))
            self.assertEqual(told, (max(high, 10 * len(rows)), (10 * len(rows), rows, sums, count)))
        self.assertEqual(self.beside(10, 8)[1][1], [(0, 2), (2, 4), (4, 6), (6, 8)])
        self.assertEqual(self.beside(10, 8, spans={1: (0, 31)})[1][1], [(0, 1), (1, 3), (3, 5), (5, 7), (7, 8)])
        self.assertEqual(self.beside(11, 8, spans={1: (0, 31)})[1][1], [(0, 1), (1, 2), (2, 4), (4, 6), (6, 8)])

    def test_the_text_being_higher(self):
        self.assertEqual(self.beside(15, 8)[0], 40)
        self.assertEqual(self.beside(40, 8)[0], 40)

    def test_the_aside_being_higher(self):
        self.assertEqual(self.beside(41, 8)[0], 41)
        self.assertEqual(self.beside(2000, 8)[0], 2000)
        self.assertEqual(self.beside(2000, 8)[1][3], 200)

    def test_an_aside_that_is_0_high(self):
        rows, sums = broken(units_of(*[35] * 8), 100)
        self.assertEqual(self.beside(0, 8, spans={1: (0, 70)}), (40, (40, rows, sums, 0)))

    def test_the_count_goes_by_the_texts_rows(self):
        for row_high, count in ((1, 45), (7, 7), (44, 2), (45, 1), (46, 1), (100, 1)):
            self.assertEqual(self.beside(45, 3, row_high=row_high)[1][3], count)

    def test_by_is_the_asides_wide_whatever_its_insets_and_look(self):
        looks = {1: {"inset": 20, "wide": 5, "side": 1}}
        self.assertEqual(self.beside(11, 8, looks, {1: (70, 31)}), self.beside(11, 8, {}, {1: (0, 31)}))

    def test_the_texts_inset(self):
        told = self.beside(11, 8, {3: {"inset": 10}})[1]
        self.assertEqual(told[1:], broken(units_of(*[35] * 8), 80, (2, 30)) + (2,))

    def test_an_aside_wider_than_the_text(self):
        told = self.beside(25, 4, spans={1: (0, 200)})[1]
        self.assertEqual(told[1:], broken(units_of(*[35] * 4), 100, (3, 200)) + (3,))
        self.assertEqual(told[1], [(0, 1), (1, 2), (2, 3), (3, 4)])

    def test_an_aside_of_texts(self):
        nodes = body(node(0, "aside"), node(1, "text"), node(1, "text"), node(0, "text"))
        told = self.sizes(nodes, {3: {"above": 4}}, {2: rows_of(2), 4: rows_of(9)}, {1: (0, 10)})
        self.assertEqual([one[0] for one in told], [90, 34, 20, 10, 90])
        self.assertEqual([one[3] for one in told], [0, 0, 0, 0, 4])

    def test_behind_others_with_the_texts_above(self):
        nodes = body(node(0, "text"), node(0, "aside"), node(2, "picture", stuff=[9, 33]), node(0, "text"), node(0, "text"))
        looks = {1: {"above": 300}, 2: {"above": 200}, 3: {"above": 100}, 4: {"above": 5}, 5: {"above": 6}}
        self.assertEqual(self.highs(nodes, looks)[0], 10 + 5 + 33 + 6 + 10)
        self.assertEqual(self.highs(nodes, looks, {4: rows_of(4)})[0], 10 + 5 + 40 + 6 + 10)

    def test_first_there_is_no_above(self):
        nodes = body(node(0, "aside"), node(1, "picture", stuff=[9, 33]), node(0, "text"), node(0, "text"))
        looks = {1: {"above": 300}, 3: {"above": 200}, 4: {"above": 6}}
        self.assertEqual(self.highs(nodes, looks)[0], 33 + 6 + 10)

    def test_behind_one_another(self):
        nodes = body(*[node(0, "aside"), node(1, "picture", stuff=[9, 5]), node(0, "text"),
                       node(0, "aside"), node(4, "picture", stuff=[9, 45]), node(0, "text"), node(0, "text")])
        told = self.sizes(nodes, {number: {"above": number} for number in range(8)}, {7: rows_of(2)}, {1: (0, 20)})
        self.assertEqual([one[0] for one in told], [10 + 6 + 45 + 7 + 20, 5, 5, 10, 45, 45, 10, 20])
        self.assertEqual([one[3] for one in told], [0, 0, 0, 1, 0, 0, 5, 0])

    def test_the_text_behind_that_one_is_not_next_to_it(self):
        nodes = body(node(0, "aside"), node(1, "picture", stuff=[9, 99]), node(0, "text"), node(0, "text"), node(0, "head"))
        units = {number: units_of(35, 35, 35, 35) for number in (3, 4, 5)}
        told = self.sizes(nodes, {}, units, {1: (0, 60)})
        self.assertEqual([one[3] for one in told], [0, 0, 0, 10, 0, 0])
        self.assertEqual([one[0] for one in told], [139, 99, 99, 40, 20, 20])

    def test_in_a_case_and_in_what_an_aside_holds(self):
        nodes = body(
            node(0, "aside"), node(1, "case"), node(2, "text"), node(2, "aside"), node(4, "picture", stuff=[9, 25]),
            node(2, "text"), node(0, "text"),
        )
        told = self.sizes(nodes, {6: {"above": 3}}, {7: rows_of(5)}, {4: (0, 20), 1: (0, 40)})
        self.assertEqual([one[0] for one in told], [50, 38, 38, 10, 25, 25, 10, 50])
        self.assertEqual([one[3] for one in told], [0, 0, 0, 0, 0, 0, 3, 4])

    def test_notes_of_the_text_and_in_the_aside(self):
        nodes = body(node(0, "aside"), node(1, "text", stuff=NOTED), node(2, "note"), node(0, "text", stuff=NOTED),
                     node(4, "note"))
        told = self.sizes(nodes, {}, {3: rows_of(20), 5: rows_of(30)}, {1: (0, 20)})
        self.assertEqual([one[0] for one in told], [10, 10, 10, 200, 10, 300])
        self.assertEqual([one[3] for one in told], [0, 0, 0, 0, 1, 0])


class AnySizes(Sizes):
    def right(self, book, looks, units, spans, number):
        """The size of one node, once more."""
        elder, kind = book[number][:2]
        held = [k for k, one in enumerate(book) if one[0] == number and one[1] != "note"]
        if kind in WITH_UNITS:
            each, narrow = max(unit[2] for unit in units[number]), (0, 0)
            ahead = [k for k in range(number) if book[k][0] == elder]
            if kind == "text" and ahead and book[ahead[-1]][1] == "aside":
                high = self.right(book, looks, units, spans, ahead[-1])[0]
                narrow = ((high + each - 1) // each, spans[ahead[-1]][1])
            wide = max(0, spans[number][1] - 2 * look_at(looks, number, "inset"))
            rows, sums = broken(units[number], wide, narrow)
            return (each * len(rows), rows, sums, narrow[0])
        highs = {one: self.right(book, looks, units, spans, one)[0] for one in held}
        if kind == "picture":
            return (book[number][4][1], [], [], 0)
        if kind == "shelf":
            return (max(highs.values()), [], [], 0)
        if kind == "grid":
            return (self.grid_high(looks, number, held, highs), [], [], 0)
        total = 0
        for place, one in enumerate(held):
            beside = [one]
            if book[one][1] == "aside":
                continue
            if place and book[held[place - 1]][1] == "aside":
                beside.append(held[place - 1])
            total += max(highs[k] for k in beside) + (look_at(looks, one, "above") if held[0] not in beside else 0)
        return (total, [], [], 0)

    def grid_high(self, looks, number, held, highs):
        cells = [(look_at(looks, one, "span"), look_at(looks, one, "deep")) for one in held]
        ends = {0: 0}
        places = grid_places(look_at(looks, number, "columns"), cells)
        for row in range(1, 1 + max(place[0] + place[3] for place in places)):
            ends[row] = max([ends[row - 1]] + [ends[place[0]] + highs[one] for one, place in zip(held, places)
                                               if place[0] + place[3] == row])
        return max(ends.values())

    def test_each_node(self):
        for seed in range(120):
            chance = random.Random(seed)
            book = any_book(chance)
            looks = any_looks(chance, len(book))
            units = all_units(book, looks, any_faces(chance), [("one", "12")])
            wide = chance.choice([chance.randint(1, 100), chance.randint(100, 600), 4000])
            spans = all_spans(book, looks, all_bounds(book, looks, units), wide)
            told = self.every(book, looks, units, spans)
            for number in range(len(book)):
                self.assertEqual(told[number], self.right(book, looks, units, spans, number), (seed, number))

    def test_an_ordinary_book(self):
        self.assertEqual(self.highs(rich_nodes(), {number: {"above": number} for number in range(15)}),
                         [10 + 2005 + 6 + 9 + 10 + 14, 10, 10, 2005, 2000, 0, 10, 10, 10, 10, 10, 10, 10, 10, 0])

    def test_by_name(self):
        book = made_book(body(node(0, "picture", stuff=[1, 2])))
        self.assertEqual(all_sizes(book=book, looks=plain_looks(2), units=[[], []], spans=[(0, 9), (0, 9)]),
                         [(2, [], [], 0), (2, [], [], 0)])

    def test_what_is_told_is_its_own(self):
        book, looks = made_book(body(node(0, "text"), node(0, "text"))), plain_looks(3)
        units, spans = [[], units_of(5), units_of(5)], [(0, 9)] * 3
        first = all_sizes(book, looks, units, spans)
        for size in first:
            size[1].append((7, 7))
            size[2].append([None])
        self.assertEqual(all_sizes(book, looks, units, spans)[1], (10, [(0, 1)], [[0, None], [None, 0]], 0))
        self.assertEqual(all_sizes(book, looks, units, spans)[0], (20, [], [], 0))


if __name__ == "__main__":
    unittest.main()
