import random
import unittest

from leafpress.books import made_book
from leafpress.bounds import all_bounds
from leafpress.grids import grid_places
from leafpress.rules import look_at
from leafpress.shares import shares
from leafpress.spans import all_spans, spans_hold
from leafpress.units import all_units
from tests.helpers import (
    Untouched, any_book, any_faces, any_looks, body, deep_nodes, node, note_piece, plain_looks, rich_nodes, share_a_list,
    word,
)


class Spans(Untouched):
    def spans(self, nodes, wide, told=None, bounds=None):
        """The spans of a book, looked over too; bounds are (0, 0) where none are told."""
        book = made_book(nodes)
        given = [(0, 0)] * len(book)
        for number, one in (bounds or {}).items():
            given[number] = one
        return self.every(book, plain_looks(len(book), told), given, wide)

    def every(self, book, looks, bounds, wide):
        told = self.ask(all_spans, book, looks, bounds, wide)
        self.assertEqual([type(told), len(told)], [list, len(book)])
        for one in told:
            self.assertEqual([type(one)] + [type(part) for part in one], [tuple, int, int])
        self.assertIs(self.ask(spans_hold, book, looks, bounds, wide, told), True)
        return told


class Rooms(Spans):
    def test_node_0_is_as_wide_as_the_sheet(self):
        for wide in (1, 7, 4000):
            self.assertEqual(self.spans(body(node(0, "text")), wide), [(0, wide), (0, wide)])
            self.assertEqual(self.spans(body(node(0, "text")), wide, {0: {"inset": 400, "wide": 9}})[0], (0, wide))

    def test_all_kinds_have_the_room_of_their_elder(self):
        held = [node(0, "case"), node(0, "shelf"), node(2, "picture"), node(0, "grid"), node(4, "picture"),
                node(0, "text"), node(0, "head"), node(0, "picture")]
        told = self.spans(body(*held), 100, {0: {"inset": 7}})
        for number in (1, 2, 4, 6, 7, 8):
            self.assertEqual(told[number], (7, 86))

    def test_insets_over_several_levels(self):
        looks = {0: {"inset": 10}, 1: {"inset": 5}, 3: {"inset": 1}, 5: {"inset": 2}, 6: {"inset": 30}}
        self.assertEqual(self.spans(deep_nodes(), 100, looks),
                         [(0, 100), (10, 80), (15, 70), (15, 70), (16, 68), (16, 68), (18, 64)])

    def test_rooms_that_would_be_less_than_0(self):
        for wide, room in ((1, 0), (99, 0), (100, 0), (101, 1)):
            self.assertEqual(self.spans(body(node(0, "text")), wide, {0: {"inset": 50}}), [(0, wide), (50, room)])
        nodes = body(node(0, "case"), node(1, "case"), node(2, "text"))
        self.assertEqual(self.spans(nodes, 30, {0: {"inset": 16}, 1: {"inset": 3}, 2: {"inset": 400}}),
                         [(0, 30), (16, 0), (19, 0), (419, 0)])

    def test_the_ones_inset_is_its_own(self):
        self.assertEqual(self.spans(body(node(0, "text"), node(0, "text")), 50, {1: {"inset": 9}}), [(0, 50)] * 3)

    def test_bounds_count_in_shelves_alone(self):
        nodes = body(node(0, "case"), node(1, "text"), node(0, "grid"), node(3, "text"))
        bounds = {number: (500, 900) for number in range(5)}
        self.assertEqual(self.spans(nodes, 40, bounds=bounds), [(0, 40)] * 4 + [(0, 20)])


class Asides(Spans):
    def aside(self, wide, told, others=None):
        """The span of an aside in a body."""
        looks = {1: told}
        looks.update(others or {})
        spans = self.spans(body(node(0, "aside"), node(1, "text"), node(0, "text")), wide, looks)
        room = look_at(plain_looks(4, looks), 0, "inset")
        self.assertEqual(spans[3], (room, max(0, wide - 2 * room)))
        self.assertEqual(spans[2][1], max(0, spans[1][1] - 2 * told.get("inset", 0)))
        return spans[1]

    def test_to_the_left(self):
        self.assertEqual(self.aside(200, {"wide": 30}), (0, 30))
        self.assertEqual(self.aside(200, {"wide": 30, "side": 0}, {0: {"inset": 6}}), (6, 30))

    def test_to_the_right(self):
        self.assertEqual(self.aside(200, {"wide": 30, "side": 1}), (170, 30))
        self.assertEqual(self.aside(200, {"wide": 30, "side": 1}, {0: {"inset": 6}}), (164, 30))

    def test_wider_than_half_of_the_room(self):
        for wide, right in ((99, 99), (100, 100), (101, 100), (4000, 100)):
            self.assertEqual(self.aside(200, {"wide": wide}), (0, right))
            self.assertEqual(self.aside(200, {"wide": wide, "side": 1}), (200 - right, right))
        self.assertEqual(self.aside(200, {"wide": 100, "side": 1}, {0: {"inset": 10}}), (100, 90))

    def test_half_is_rounded_down(self):
        self.assertEqual(self.aside(201, {"wide": 101}), (0, 100))
        self.assertEqual(self.aside(201, {"wide": 101, "side": 1}), (101, 100))
        self.assertEqual(self.aside(1, {"wide": 1}), (0, 0))
        self.assertEqual(self.aside(1, {"wide": 1, "side": 1}), (1, 0))

    def test_100_wide_where_nothing_tells_it(self):
        self.assertEqual(self.aside(1000, {}), (0, 100))

    def test_in_a_room_of_0(self):
        self.assertEqual(self.aside(10, {"wide": 5, "side": 1}, {0: {"inset": 6}}), (6, 0))

    def test_its_inset(self):
        self.assertEqual(self.aside(200, {"wide": 30, "inset": 4}), (0, 30))
        self.assertEqual(self.aside(200, {"wide": 30, "inset": 20}), (0, 30))

    def test_in_a_case(self):
        nodes = body(node(0, "case"), node(1, "aside"), node(2, "picture"), node(1, "text"))
        looks = {0: {"inset": 3}, 1: {"inset": 5}, 2: {"side": 1, "wide": 20, "inset": 2}}
        self.assertEqual(self.spans(nodes, 100, looks), [(0, 100), (3, 94), (72, 20), (74, 16), (8, 84)])

    def test_wide_and_side_of_other_kinds_do_not_count(self):
        self.assertEqual(self.spans(body(node(0, "text")), 80, {1: {"wide": 3, "side": 1}})[1], (0, 80))


class Shelves(Spans):
    def shelf(self, wide, bounds, told=None, shelf=None):
        """The spans of what a shelf of cases holds: their bounds are told, and looks of some, from 0 on."""
        looks = {number + 2: one for number, one in (told or {}).items()}
        looks[1] = shelf or {}
        nodes = body(node(0, "shelf"), *[node(1, "case") for one in bounds])
        return self.spans(nodes, wide, looks, {number + 2: one for number, one in enumerate(bounds)})[2:]

    def test_one_behind_the_other(self):
        self.assertEqual(self.shelf(90, [(0, 0)] * 3), [(0, 30), (30, 30), (60, 30)])
        self.assertEqual(self.shelf(91, [(0, 0)] * 3), [(0, 31), (31, 30), (61, 30)])

    def test_in_its_room(self):
        self.assertEqual(self.shelf(90, [(0, 0)] * 2, shelf={"inset": 5}), [(5, 40), (45, 40)])

    def test_weights(self):
        self.assertEqual(self.shelf(90, [(0, 0)] * 3, {0: {"weight": 2}, 2: {"weight": 6}}), [(0, 20), (20, 10), (30, 60)])

    def test_floors(self):
        self.assertEqual(self.shelf(90, [(0, 0), (50, 60)]), [(0, 40), (40, 50)])
        self.assertEqual(self.shelf(90, [(0, 0), (10, 60)], {1: {"least": 50}}), [(0, 40), (40, 50)])
        self.assertEqual(self.shelf(90, [(0, 0), (50, 60)], {1: {"least": 49}}), [(0, 40), (40, 50)])

    def test_floors_that_are_more_than_the_room(self):
        self.assertEqual(self.shelf(60, [(40, 40), (50, 60)]), [(0, 40), (40, 50)])
        self.assertEqual(self.shelf(9, [(4, 4), (5, 6)], shelf={"inset": 6}), [(6, 4), (10, 5)])

    def test_roofs(self):
        self.assertEqual(self.shelf(90, [(0, 0), (0, 0)], {0: {"most": 12}}), [(0, 12), (12, 78)])
        self.assertEqual(self.shelf(90, [(0, 0), (0, 0)], {0: {"most": 12}, 1: {"most": 20}}), [(0, 12), (12, 20)])
        self.assertEqual(self.shelf(90, [(20, 20), (0, 0)], {0: {"most": 12}}), [(0, 20), (20, 70)])
        self.assertEqual(self.shelf(90, [(0, 0), (0, 0)], {0: {"most": 12, "least": 15}}), [(0, 15), (15, 75)])

    def test_a_great_does_not_count(self):
        self.assertEqual(self.shelf(90, [(0, 5), (0, 4000)]), [(0, 45), (45, 45)])

    def test_floors_beyond_the_greatest_most(self):
        self.assertEqual(self.shelf(90, [(9000, 9000), (1, 1)]), [(0, 9000), (9000, 1)])

    def test_within_one_another(self):
        nodes = body(node(0, "shelf"), node(1, "shelf"), node(2, "text"), node(2, "text"), node(1, "text"))
        told = self.spans(nodes, 100, {1: {"inset": 4}, 2: {"inset": 3}}, {3: (25, 30), 5: (50, 50)})
        self.assertEqual(told[1:], [(0, 100), (4, 42), (7, 25), (32, 11), (46, 50)])


class Grids(Spans):
    def grid(self, wide, columns, cells, inset=0):
        looks = {number: {"span": span, "deep": deep} for number, (span, deep) in enumerate(cells, start=2)}
        looks[1] = {"columns": columns, "inset": inset, "span": 5, "deep": 4}
        return self.spans(body(node(0, "grid"), *[node(1, "case") for cell in cells]), wide, looks)[2:]

    def test_even_columns(self):
        self.assertEqual(self.grid(90, 3, [(1, 1)] * 4), [(0, 30), (30, 30), (60, 30), (0, 30)])
        self.assertEqual(self.grid(90, 1, [(1, 1)] * 2), [(0, 90), (0, 90)])

    def test_two_columns_where_nothing_tells_it(self):
        self.assertEqual(self.spans(body(node(0, "grid"), node(1, "text"), node(1, "text")), 50)[2:], [(0, 25), (25, 25)])

    def test_columns_left_over(self):
        self.assertEqual(self.grid(91, 3, [(1, 1)] * 3), [(0, 31), (31, 30), (61, 30)])
        self.assertEqual(self.grid(92, 3, [(1, 1)] * 3), [(0, 31), (31, 31), (62, 30)])
        self.assertEqual(self.grid(5, 6, [(1, 1)] * 6), [(0, 1), (1, 1), (2, 1), (3, 1), (4, 1), (5, 0)])

    def test_spans(self):
        self.assertEqual(self.grid(92, 3, [(2, 1), (1, 1), (1, 1), (2, 1), (3, 1)]),
                         [(0, 62), (62, 30), (0, 31), (31, 61), (0, 92)])

    def test_spans_beyond_the_columns(self):
        self.assertEqual(self.grid(91, 2, [(6, 1), (1, 1), (3, 1)]), [(0, 91), (0, 46), (0, 91)])

    def test_places_with_holes_and_deep_cells(self):
        self.assertEqual(self.grid(60, 3, [(2, 1), (2, 1), (1, 1)]), [(0, 40), (0, 40), (40, 20)])
        self.assertEqual(self.grid(60, 3, [(1, 2), (2, 1), (1, 1), (1, 1), (1, 1)]),
                         [(0, 20), (20, 40), (20, 20), (40, 20), (0, 20)])

    def test_in_its_room(self):
        self.assertEqual(self.grid(91, 3, [(1, 1), (2, 1)], inset=4), [(4, 28), (32, 55)])
        self.assertEqual(self.grid(9, 3, [(1, 1), (2, 1)], inset=5), [(5, 0), (5, 0)])


class Notes(Spans):
    def test_node_0s_room(self):
        nodes = body(
            node(0, "head", stuff=[word(), note_piece(0)]), node(1, "note"),
            node(0, "case"), node(3, "shelf"), node(4, "text", stuff=[word(), note_piece(0), note_piece(1)]),
            node(5, "note"), node(5, "note"), node(4, "text"),
        )
        looks = {0: {"inset": 10}, 1: {"inset": 3}, 2: {"inset": 4}, 3: {"inset": 5}, 5: {"inset": 1}}
        told = self.spans(nodes, 100, looks)
        self.assertEqual([told[number] for number in (2, 6, 7)], [(10, 80)] * 3)
        self.assertEqual([told[number] for number in (1, 3, 4, 5, 8)], [(10, 80), (10, 80), (15, 70), (15, 35), (50, 35)])

    def test_in_an_aside(self):
        nodes = body(node(0, "aside"), node(1, "text", stuff=[word(), note_piece(0)]), node(2, "note"), node(0, "text"))
        self.assertEqual(self.spans(nodes, 300, {1: {"side": 1}}), [(0, 300), (200, 100), (200, 100), (0, 300), (0, 300)])


class SpansHold(Spans):
    NODES = body(
        node(0, "aside"), node(1, "text"), node(0, "text", stuff=[word(), note_piece(0)]), node(3, "note"),
        node(0, "shelf"), node(5, "text"), node(5, "case"), node(7, "head"), node(5, "picture"),
        node(0, "grid"), node(10, "text"), node(10, "case"), node(12, "picture"), node(10, "text"), node(0, "head"),
        node(0, "aside"), node(16, "picture"), node(0, "text"),
    )
    LOOKS = {0: {"inset": 4}, 1: {"inset": 3, "wide": 20}, 5: {"inset": 2}, 6: {"weight": 2}, 10: {"columns": 3},
             12: {"span": 2, "inset": 1}, 16: {"side": 1, "wide": 33}}
    RIGHT = [(0, 101), (4, 20), (7, 14), (4, 93), (4, 93), (4, 93), (6, 45), (51, 22), (51, 22), (73, 22), (4, 93),
             (4, 31), (35, 62), (36, 60), (4, 31), (4, 93), (64, 33), (64, 33), (4, 93)]

    def setUp(self):
        self.book = made_book(self.NODES)
        self.looks = plain_looks(len(self.book), self.LOOKS)
        self.bounds = [(5, 9)] * len(self.book)

    def holds(self, told, wide=101):
        return self.ask(spans_hold, self.book, self.looks, self.bounds, wide, told)

    def test_what_all_spans_tells(self):
        self.assertEqual(self.every(self.book, self.looks, self.bounds, 101), self.RIGHT)
        self.assertIs(spans_hold(book=self.book, looks=self.looks, bounds=self.bounds, wide=101, told=self.RIGHT), True)

    def test_each_span_told_wrongly(self):
        for number, (left, wide) in enumerate(self.RIGHT):
            for other in ((left - 1, wide), (left + 1, wide), (left, wide - 1), (left, wide + 1), (left + 1, wide - 1),
                          (left - 1, wide + 1), (wide, left), (-left - 1, wide), (left, -wide), (0, 0), (-1, -1),
                          (10 ** 30, wide), (left, 10 ** 30), (left, -10 ** 30)):
                told = self.RIGHT[:number] + [other] + self.RIGHT[number + 1:]
                self.assertIs(self.holds(told), False, (number, other))

    def test_another_width(self):
        for wide in (0, 100, 102, 4000):
            self.assertIs(self.holds(self.RIGHT, wide), False)
        other = all_spans(self.book, self.looks, self.bounds, 102)
        self.assertIs(self.holds(other, 102), True)
        self.assertIs(self.holds(other), False)

    def test_node_0_with_another_left_and_all_that_follows(self):
        self.assertIs(self.holds([(left + 1, wide) for left, wide in self.RIGHT]), False)
        self.assertIs(self.holds([(left - 1, wide) for left, wide in self.RIGHT]), False)

    def test_an_aside_on_the_other_side(self):
        told = list(self.RIGHT)
        told[1:3] = [(77, 20), (80, 14)]
        self.assertIs(self.holds(told), False)
        told = list(self.RIGHT)
        told[16:18] = [(4, 33), (4, 33)]
        self.assertIs(self.holds(told), False)

    def test_an_aside_with_another_width_and_what_follows(self):
        told = list(self.RIGHT)
        told[1:3] = [(4, 21), (7, 15)]
        self.assertIs(self.holds(told), False)

    def test_shares_that_are_none(self):
        for wides in ([46, 21, 22], [44, 23, 22], [45, 23, 21], [45, 21, 23], [46, 22, 22], [30, 30, 29], [5, 5, 5]):
            told = list(self.RIGHT)
            told[6:10] = [(6, wides[0]), (6 + wides[0], wides[1]), (6 + wides[0], wides[1]),
                          (6 + wides[0] + wides[1], wides[2])]
            self.assertIs(self.holds(told), False, wides)

    def test_shares_that_stand_elsewhere(self):
        told = list(self.RIGHT)
        told[6:10] = [(50, 45), (28, 22), (28, 22), (6, 22)]
        self.assertIs(self.holds(told), False)
        told[6:10] = [(7, 45), (52, 22), (52, 22), (74, 22)]
        self.assertIs(self.holds(told), False)

    def test_cells_in_other_columns(self):
        told = list(self.RIGHT)
        told[11:15] = [(66, 31), (4, 62), (5, 60), (4, 31)]
        self.assertIs(self.holds(told), False)
        told = list(self.RIGHT)
        told[14] = (35, 31)
        self.assertIs(self.holds(told), False)

    def test_a_note_with_the_room_of_its_text(self):
        self.looks[3][3] = 7
        told = all_spans(self.book, self.looks, self.bounds, 101)
        self.assertIs(self.holds(told), True)
        self.assertEqual(told[4], (4, 93))
        told[4] = (11, 79)
        self.assertIs(self.holds(told), False)

    def test_a_room_below_0(self):
        nodes = body(node(0, "case"), node(1, "text"))
        looks = plain_looks(3, {0: {"inset": 6}})
        right = [(0, 9), (6, 0), (6, 0)]
        self.assertIs(self.ask(spans_hold, made_book(nodes), looks, [(0, 0)] * 3, 9, right), True)
        self.assertIs(self.ask(spans_hold, made_book(nodes), looks, [(0, 0)] * 3, 9, [(0, 9), (6, -3), (6, -3)]), False)

    def test_of_the_elder_told_and_its_like(self):
        """Where one is told wrongly, all that follows from it being as it asks, that one alone betrays it."""
        told = list(self.RIGHT)
        told[12:14] = [(35, 61), (36, 59)]
        self.assertIs(self.holds(told), False)

    def test_lists_of_another_length(self):
        for told in ([], self.RIGHT[:-1], self.RIGHT + [(4, 93)], self.RIGHT[:1]):
            self.assertIs(self.holds(told), False)


class AnySpans(Spans):
    def right(self, book, looks, bounds, wide, number):
        """The span of one node, once more, by that of its elder."""
        elder, kind = book[number][:2]
        if number == 0:
            return (0, wide)
        if kind == "note":
            elder = 0
        left, room = self.right(book, looks, bounds, wide, elder)
        left += look_at(looks, elder, "inset")
        room = max(0, room - 2 * look_at(looks, elder, "inset"))
        held = [k for k, one in enumerate(book) if one[0] == elder]
        if kind == "note":
            return (left, room)
        place = held.index(number)
        if kind == "aside":
            own = min(room // 2, look_at(looks, number, "wide"))
            return (left + (room - own) * look_at(looks, number, "side"), own)
        if book[elder][1] == "shelf":
            floors = [max(bounds[k][0], look_at(looks, k, "least")) for k in held]
            roofs = [max(floor, look_at(looks, k, "most")) for k, floor in zip(held, floors)]
            given = shares(room, floors, roofs, [look_at(looks, k, "weight") for k in held])
            return (left + sum(given[:place]), given[place])
        if book[elder][1] == "grid":
            columns = look_at(looks, elder, "columns")
            cells = [(look_at(looks, k, "span"), look_at(looks, k, "deep")) for k in held]
            row, column, span, deep = grid_places(columns, cells)[place]
            edges = [k * (room // columns) + min(k, room % columns) for k in range(columns + 1)]
            return (left + edges[column], edges[column + span] - edges[column])
        return (left, room)

    def test_each_node(self):
        for seed in range(150):
            chance = random.Random(seed)
            book = any_book(chance)
            looks = any_looks(chance, len(book))
            bounds = all_bounds(book, looks, all_units(book, looks, any_faces(chance), []))
            if chance.randrange(3) == 0:
                bounds = [(low, low + chance.randint(0, 99)) for low in [chance.randint(0, 300) for one in book]]
            wide = chance.choice([chance.randint(1, 100), chance.randint(100, 600), 4000])
            told = self.every(book, looks, bounds, wide)
            for number in range(len(book)):
                self.assertEqual(told[number], self.right(book, looks, bounds, wide, number), (seed, number))
            for k in range(15):
                other = list(told)
                for number in chance.sample(range(len(book)), min(len(book), chance.choice([1, 2, 2]))):
                    other[number] = chance.choice([chance.choice(told), (told[number][0] + chance.randint(-2, 2),
                                                                         told[number][1] + chance.randint(-2, 2))])
                self.assertIs(spans_hold(book, looks, bounds, wide, other), other == told, (seed, k))

    def test_an_ordinary_book(self):
        book = made_book(rich_nodes())
        self.assertEqual(self.every(book, plain_looks(15, {0: {"inset": 10}, 3: {"side": 1}}), [(6, 6)] * 15, 121), [
            (0, 121), (10, 101), (10, 101), (61, 50), (61, 50), (61, 50), (10, 101), (10, 101), (10, 101), (10, 101),
            (10, 51), (10, 26), (61, 50), (61, 50), (10, 101),
        ])

    def test_by_name(self):
        book = made_book(body(node(0, "text")))
        self.assertEqual(all_spans(book=book, looks=plain_looks(2), bounds=[(0, 0)] * 2, wide=8), [(0, 8), (0, 8)])

    def test_what_is_told_is_its_own(self):
        book = made_book(body(node(0, "text")))
        bounds = [(0, 8), (0, 8)]
        first = all_spans(book, plain_looks(2), bounds, 8)
        self.assertFalse(share_a_list(first, all_spans(book, plain_looks(2), bounds, 8), bounds))
        first.clear()
        self.assertEqual(all_spans(book, plain_looks(2), bounds, 8), [(0, 8), (0, 8)])


if __name__ == "__main__":
    unittest.main()
