import random
import unittest

from leafpress.books import made_book
from leafpress.bounds import all_bounds
from leafpress.grids import grid_highs, grid_places
from leafpress.insides import insides
from leafpress.rules import look_at
from leafpress.sizes import all_sizes
from leafpress.spans import all_spans
from leafpress.units import all_units
from tests.helpers import (
    Untouched, any_book, any_faces, any_looks, body, node, note_piece, plain_looks, rich_nodes, share_a_list, units_of,
    word,
)

WITH_UNITS = ("text", "head", "note")


class Insides(Untouched):
    def lay(self, nodes, looks=None, highs=None, spans=None):
        """A book to be asked of: sizes are as all_sizes tells them, each text being so many rows high, 10 each."""
        self.book = made_book(nodes)
        self.looks = plain_looks(len(self.book), looks)
        self.spans = [(number, 100 + number) for number in range(len(self.book))]
        for number, one in (spans or {}).items():
            self.spans[number] = one
        units = [units_of(*[4000] * (highs or {}).get(number, 1)) if one[1] in WITH_UNITS else []
                 for number, one in enumerate(self.book)]
        self.sizes = all_sizes(self.book, self.looks, units, self.spans)

    def inside(self, number, top=0):
        told = self.ask(insides, self.book, self.looks, self.spans, self.sizes, number, top)
        self.assertIs(type(told), list)
        for one in told:
            self.assertEqual([type(one)] + [type(part) for part in one], [tuple] + [int] * 5)
        return told


class EachKind(Insides):
    def test_a_text_a_head_and_a_note(self):
        stuff = [word(), note_piece(0)]
        self.lay(body(node(0, "text", stuff=stuff), node(1, "note"), node(0, "head", stuff=stuff), node(3, "note")),
                 {1: {"inset": 9}}, {1: 2, 2: 3, 3: 4, 4: 5})
        self.assertEqual(self.inside(1), [(1, 1, 0, 101, 20)])
        self.assertEqual(self.inside(1, 7), [(1, 1, 7, 101, 20)])
        self.assertEqual(self.inside(2, 7), [(2, 2, 7, 102, 30)])
        self.assertEqual(self.inside(3, 7), [(3, 3, 7, 103, 40)])
        self.assertEqual(self.inside(4, 7), [(4, 4, 7, 104, 50)])

    def test_notes_are_left_out(self):
        stuff = [word(), note_piece(0), note_piece(1)]
        self.lay(body(node(0, "case"), node(1, "text", stuff=stuff), node(2, "note"), node(2, "note"), node(1, "text"),
                      node(0, "head", stuff=stuff[:2]), node(6, "note")))
        self.assertEqual([one[0] for one in self.inside(0)], [0, 1, 2, 5, 6])
        self.assertEqual([one[0] for one in self.inside(1)], [1, 2, 5])

    def test_a_pictures_own_wide(self):
        self.lay(body(node(0, "picture", stuff=[30, 20]), node(0, "picture", stuff=[2000, 3])), {1: {"inset": 5}})
        self.assertEqual(self.inside(1, 4), [(1, 1, 4, 30, 20)])
        self.assertEqual(self.inside(2, 4), [(2, 2, 4, 2000, 3)])
        self.assertEqual(self.inside(0, 4), [(0, 0, 4, 100, 23), (1, 1, 4, 30, 20), (2, 2, 24, 2000, 3)])

    def test_a_body(self):
        self.lay(body(node(0, "text"), node(0, "head"), node(0, "text")),
                 {0: {"above": 90, "inset": 7}, 1: {"above": 50}, 2: {"above": 3}, 3: {"above": 4}}, {2: 2})
        self.assertEqual(self.inside(0), [(0, 0, 0, 100, 47), (1, 1, 0, 101, 10), (2, 2, 13, 102, 20), (3, 3, 37, 103, 10)])
        self.assertEqual(self.inside(0, 1000),
                         [(0, 0, 1000, 100, 47), (1, 1, 1000, 101, 10), (2, 2, 1013, 102, 20), (3, 3, 1037, 103, 10)])

    def test_a_case(self):
        self.lay(body(node(0, "text"), node(0, "case"), node(2, "text"), node(2, "text"), node(0, "text")),
                 {number: {"above": number} for number in range(6)})
        self.assertEqual(self.inside(2), [(2, 2, 0, 102, 24), (3, 3, 0, 103, 10), (4, 4, 14, 104, 10)])
        self.assertEqual(self.inside(2, 60), [(2, 2, 60, 102, 24), (3, 3, 60, 103, 10), (4, 4, 74, 104, 10)])
        self.assertEqual([one[2] for one in self.inside(0)], [0, 0, 12, 12, 26, 41])

    def test_an_empty_case(self):
        self.lay(body(node(0, "case"), node(0, "text")))
        self.assertEqual(self.inside(1, 5), [(1, 1, 5, 101, 0)])
        self.assertEqual(self.inside(0, 5), [(0, 0, 5, 100, 10), (1, 1, 5, 101, 0), (2, 2, 5, 102, 10)])

    def test_a_shelf(self):
        self.lay(body(node(0, "shelf"), node(1, "text"), node(1, "case"), node(3, "text"), node(3, "text"), node(1, "text")),
                 {number: {"above": number} for number in range(7)}, {2: 4})
        self.assertEqual(self.inside(1, 9), [
            (1, 1, 9, 101, 40), (2, 2, 9, 102, 40), (3, 3, 9, 103, 25), (4, 4, 9, 104, 10), (5, 5, 24, 105, 10),
            (6, 6, 9, 106, 10),
        ])

    def test_a_grid(self):
        held = [node(1, "text") for k in range(4)]
        looks = {number: {"above": 50} for number in range(6)}
        self.lay(body(node(0, "grid"), *held), looks, {2: 1, 3: 3, 4: 2, 5: 1})
        self.assertEqual(self.inside(1, 9), [
            (1, 1, 9, 101, 50), (2, 2, 9, 102, 10), (3, 3, 9, 103, 30), (4, 4, 39, 104, 20), (5, 5, 39, 105, 10),
        ])

    def test_a_grid_with_holes_and_cells_over_several_rows(self):
        held = [node(1, "text") for k in range(5)]
        looks = {1: {"columns": 3}, 2: {"span": 2}, 3: {"span": 2, "deep": 2}, 4: {"deep": 3}, 5: {"span": 6}}
        self.lay(body(node(0, "grid"), *held), looks, {2: 2, 3: 5, 4: 9, 5: 1, 6: 1})
        places = grid_places(3, [(2, 1), (2, 2), (1, 3), (6, 1), (1, 1)])
        self.assertEqual(places, [(0, 0, 2, 1), (1, 0, 2, 2), (0, 2, 1, 3), (3, 0, 3, 1), (4, 0, 1, 1)])
        self.assertEqual(grid_highs(places, [20, 50, 90, 10, 10]), [20, 0, 70, 10, 10])
        self.assertEqual([(one[0], one[2], one[4]) for one in self.inside(1, 1000)],
                         [(1, 1000, 110), (2, 1000, 20), (3, 1020, 50), (4, 1000, 90), (5, 1090, 10), (6, 1100, 10)])

    def test_an_aside(self):
        self.lay(body(node(0, "aside"), node(1, "text"), node(1, "picture", stuff=[8, 6]), node(0, "text")),
                 {1: {"above": 70}, 2: {"above": 60}, 3: {"above": 5}})
        self.assertEqual(self.inside(1, 30), [(1, 1, 30, 101, 21), (2, 2, 30, 102, 10), (3, 3, 45, 8, 6)])

    def test_an_aside_and_the_text_next_to_it(self):
        nodes = body(node(0, "aside"), node(1, "picture", stuff=[8, 33]), node(0, "text"), node(0, "text"),
                     node(0, "aside"), node(5, "text"), node(0, "text"), node(0, "head"))
        looks = {number: {"above": number} for number in range(9)}
        self.lay(nodes, looks, {7: 2})
        self.assertEqual([(one[0], one[2], one[4]) for one in self.inside(0, 500)], [
            (0, 500, 33 + 4 + 10 + 7 + 20 + 8 + 10), (1, 500, 33), (2, 500, 33), (3, 500, 10), (4, 537, 10),
            (5, 554, 10), (6, 554, 10), (7, 554, 20), (8, 582, 10),
        ])

    def test_lefts_and_wides_are_those_of_the_spans(self):
        nodes = body(node(0, "case"), node(1, "aside"), node(2, "text"), node(1, "text"))
        self.lay(nodes, {2: {"side": 1, "wide": 30}, 1: {"inset": 4}, 0: {"inset": 2}})
        self.spans = all_spans(self.book, self.looks, [(0, 0)] * 5, 200)
        self.assertEqual([one[:2] + one[3:4] for one in self.inside(0)],
                         [(0, 0, 200), (1, 2, 196), (2, 164, 30), (3, 164, 30), (4, 6, 188)])

    def test_a_top_below_0(self):
        self.lay(body(node(0, "case"), node(1, "text"), node(1, "text")))
        self.assertEqual([one[2] for one in self.inside(1, -7)], [-7, -7, 3])

    def test_an_ordinary_book(self):
        self.lay(rich_nodes(), {number: {"above": number} for number in range(15)})
        self.assertEqual([(one[0], one[2], one[4]) for one in self.inside(0, 3)], [
            (0, 3, 2054), (1, 3, 10), (3, 19, 2005), (4, 19, 2000), (5, 2024, 0), (6, 19, 10), (9, 2033, 10),
            (10, 2033, 10), (11, 2033, 10), (12, 2033, 10), (13, 2033, 10), (14, 2057, 0),
        ])

    def test_by_name(self):
        self.lay(body(node(0, "text")))
        self.assertEqual(insides(book=self.book, looks=self.looks, spans=self.spans, sizes=self.sizes, node=1, top=2),
                         [(1, 1, 2, 101, 10)])

    def test_what_is_told_is_its_own(self):
        self.lay(body(node(0, "text")))
        first = self.inside(0)
        self.assertFalse(share_a_list(first, self.inside(0), self.book, self.looks, self.spans, self.sizes))
        first.clear()
        self.assertEqual(len(self.inside(0)), 2)


class AnyInsides(Insides):
    def right(self, number, top):
        """The insides of a node, once more."""
        book, looks, highs = self.book, self.looks, [size[0] for size in self.sizes]
        kind = book[number][1]
        wide = book[number][4][0] if kind == "picture" else self.spans[number][1]
        told = [(number, self.spans[number][0], top, wide, highs[number])]
        held = [k for k, one in enumerate(book) if one[0] == number and one[1] != "note"]
        if kind == "grid":
            cells = [(look_at(looks, one, "span"), look_at(looks, one, "deep")) for one in held]
            places = grid_places(look_at(looks, number, "columns"), cells)
            rows = grid_highs(places, [highs[one] for one in held])
        y, lower = top, top
        for place, one in enumerate(held):
            if kind == "grid":
                y = top + sum(rows[:places[place][0]])
            elif kind != "shelf" and not (place and book[held[place - 1]][1] == "aside"):
                thing = held[place + 1] if book[one][1] == "aside" else one
                y = lower + (look_at(looks, thing, "above") if place else 0)
            lower = max(lower, y + highs[one])
            told.extend(self.right(one, y))
        return told

    def any_lay(self, chance, wide):
        self.book = any_book(chance)
        self.looks = any_looks(chance, len(self.book))
        units = all_units(self.book, self.looks, any_faces(chance), [("one", "12")])
        self.spans = all_spans(self.book, self.looks, all_bounds(self.book, self.looks, units), wide)
        self.sizes = all_sizes(self.book, self.looks, units, self.spans)

    def test_each_node(self):
        for seed in range(60):
            chance = random.Random(seed)
            self.any_lay(chance, chance.choice([chance.randint(1, 100), chance.randint(100, 600), 4000]))
            for number in range(len(self.book)):
                top = chance.randrange(2000)
                self.assertEqual(self.inside(number, top), self.right(number, top), (seed, number))

    def test_boxes_stand_in_their_elders_and_meet_no_others(self):
        """Where nothing juts to the right: but for an aside and the text next to it."""
        found = 0
        for seed in range(120):
            self.any_lay(random.Random(seed), 4000)
            boxes = {one[0]: one[1:] for one in self.inside(0)}
            if any(self.juts(boxes, number) for number in boxes):
                continue
            found += len(boxes)
            for number in boxes:
                elder = self.book[number][0]
                if number:
                    self.assertTrue(boxes[elder][1] <= boxes[number][1], (seed, number))
                    self.assertLessEqual(boxes[number][1] + boxes[number][3], boxes[elder][1] + boxes[elder][3])
                for other in boxes:
                    if other > number and self.book[other][0] == elder and not self.beside(number, other):
                        self.assertFalse(self.meet(boxes[number], boxes[other]), (seed, number, other))
        self.assertGreater(found, 300)

    def juts(self, boxes, number):
        left, top, wide, high = boxes[number]
        if number == 0:
            return False
        elder = self.book[number][0]
        inset = look_at(self.looks, elder, "inset")
        room = boxes[elder][0] + inset + max(0, boxes[elder][2] - 2 * inset)
        return left + wide > min(room, sum(self.spans[number]))

    def beside(self, number, other):
        between = [k for k in range(number + 1, other) if self.book[k][0] == self.book[number][0]]
        return self.book[number][1] == "aside" and not between

    def meet(self, one, other):
        return (max(one[0], other[0]) < min(one[0] + one[2], other[0] + other[2])
                and max(one[1], other[1]) < min(one[1] + one[3], other[1] + other[3]))


if __name__ == "__main__":
    unittest.main()
