import random
import unittest

from leafpress.books import made_book
from leafpress.faces import made_face
from leafpress.units import all_units, rows_high
from tests.helpers import (
    Untouched, any_book, any_faces, any_looks, body, lists_in, node, note_piece, page, plain_looks, rich_nodes,
    share_a_list, word,
)

PLAIN = made_face(12, 4, 6, [("m", 9), ("i", 3), ("?", 5)])
GREAT = made_face(20, 7, 10)
FLAT = made_face(1, 0, 1, [("7", 50), ("m", 30)])


class Units(Untouched):
    def units(self, stuff, faces, shown=None, number=0, **more):
        """The units of a text with this stuff, which holds as many notes as it has note pieces."""
        notes = [node(1, "note") for piece in stuff if piece[0] == "note"]
        book = made_book(body(node(0, "text", stuff=stuff), *notes))
        looks = plain_looks(len(book), {1: {"face": number}})
        return self.every(book, looks, faces, shown, **more)[1]

    def every(self, book, looks, faces, shown=None, **more):
        told = self.ask(lambda *given: all_units(*given, **more), book, looks, faces, shown or [])
        self.assertEqual([type(told)] + [type(one) for one in told], [list] * (len(book) + 1))
        for unit in sum(told, []):
            self.assertEqual([type(unit)] + [type(one) for one in unit], [tuple, int, int, int, int, list])
        self.assertFalse(share_a_list(told, book, looks, faces, shown))
        return told


class Words(Units):
    def test_one_word(self):
        self.assertEqual(self.units([word("a")], [PLAIN]), [(6, 4, 12, 0, [])])
        self.assertEqual(self.units([word("a" * 20)], [made_face(100, 50, 50)]), [(1000, 50, 100, 0, [])])

    def test_words_in_order(self):
        self.assertEqual(self.units([word("go"), word("mint"), word("(i)!?")], [PLAIN]),
                         [(12, 4, 12, 0, []), (24, 4, 12, 1, []), (26, 4, 12, 2, [])])

    def test_a_blank_of_no_width(self):
        self.assertEqual(self.units([word("a"), word("m7")], [FLAT]), [(1, 0, 1, 0, []), (80, 0, 1, 1, [])])

    def test_tones_take_the_faces_that_follow(self):
        stuff = [word("go", tone) for tone in (0, 1, 2, 3)]
        self.assertEqual(self.units(stuff, [PLAIN, GREAT, FLAT, made_face(3, 2, 1)]),
                         [(12, 4, 12, 0, []), (20, 7, 20, 1, []), (2, 0, 1, 2, []), (2, 2, 3, 3, [])])

    def test_tones_go_round_beyond_the_last_face(self):
        stuff = [word("go", tone) for tone in (0, 1, 2, 3)]
        self.assertEqual(self.units(stuff, [PLAIN, GREAT]),
                         [(12, 4, 12, 0, []), (20, 7, 20, 1, []), (12, 4, 12, 2, []), (20, 7, 20, 3, [])])
        self.assertEqual(self.units(stuff, [GREAT]), [(20, 7, 20, k, []) for k in range(4)])

    def test_the_look_and_the_tone_together(self):
        faces = [made_face(k + 1, k, k + 1) for k in range(8)]
        for number in (0, 1, 5, 7, 8, 50, 99):
            for tone in range(4):
                at = (number + tone) % 8
                self.assertEqual(self.units([word("x", tone)], faces, number=number), [(at + 1, at, at + 1, 0, [])])

    def test_the_looks_are_those_of_each_node(self):
        book = made_book(body(node(0, "head"), node(0, "text", stuff=[word(), note_piece(0)]), node(2, "note")))
        looks = plain_looks(4, {0: {"face": 1}, 1: {"face": 1}, 3: {"face": 2, "align": 1}})
        self.assertEqual(self.every(book, looks, [PLAIN, GREAT, FLAT]),
                         [[], [(20, 7, 20, 0, [])], [(12, 4, 12, 0, [3])], [(2, 0, 1, 0, [])]])

    def test_sixty_pieces(self):
        stuff = [word("abc"[:k % 3 + 1]) for k in range(60)]
        self.assertEqual(self.units(stuff, [PLAIN]), [(6 * (k % 3 + 1), 4, 12, k, []) for k in range(60)])


class Pages(Units):
    def test_names_that_are_shown(self):
        shown = [("a", "12"), ("two", "mm?")]
        self.assertEqual(self.units([page("two"), page("a")], [PLAIN], shown), [(23, 4, 12, 0, []), (12, 4, 12, 1, [])])

    def test_names_that_are_not_shown(self):
        for shown in ([], [("b", "12")], [("aa", "12"), ("ab", "1")]):
            self.assertEqual(self.units([page("a")], [PLAIN], shown), [(5, 4, 12, 0, [])])
        self.assertEqual(self.units([page("a"), word("a"), page("b")], [GREAT], [("b", "100")]),
                         [(10, 7, 20, 0, []), (10, 7, 20, 1, []), (30, 7, 20, 2, [])])

    def test_words_are_not_looked_up(self):
        self.assertEqual(self.units([word("a")], [PLAIN], [("a", "long")]), [(6, 4, 12, 0, [])])

    def test_tones(self):
        stuff = [page("a", tone) for tone in range(4)]
        self.assertEqual(self.units(stuff, [PLAIN, GREAT, FLAT], [("a", "m")]),
                         [(9, 4, 12, 0, []), (10, 7, 20, 1, []), (30, 0, 1, 2, []), (9, 4, 12, 3, [])])

    def test_names_of_the_book_are_not_needed(self):
        book = made_book(body(node(0, "text", "one", stuff=[page("one"), page("far")])))
        self.assertEqual(self.every(book, plain_looks(2), [PLAIN], [("one", "8")])[1],
                         [(6, 4, 12, 0, []), (5, 4, 12, 1, [])])


class Room(Units):
    STUFF = [page("a"), page("b"), word("a")]
    SHOWN = [("a", "7"), ("b", "mmmmmm")]

    def test_held(self):
        self.assertEqual(self.units(self.STUFF, [PLAIN], self.SHOWN, held=True),
                         [(24, 4, 12, 0, []), (54, 4, 12, 1, []), (6, 4, 12, 2, [])])

    def test_not_held(self):
        right = [(6, 4, 12, 0, []), (54, 4, 12, 1, []), (6, 4, 12, 2, [])]
        self.assertEqual(self.units(self.STUFF, [PLAIN], self.SHOWN, held=False), right)
        self.assertEqual(self.units(self.STUFF, [PLAIN], self.SHOWN), right)

    def test_held_in_place(self):
        book = made_book(body(node(0, "text", stuff=self.STUFF)))
        self.assertEqual(all_units(book, plain_looks(2), [PLAIN], self.SHOWN, True)[1][0], (24, 4, 12, 0, []))

    def test_for_names_that_are_not_shown(self):
        self.assertEqual(self.units([page("c")], [PLAIN], self.SHOWN, held=True), [(24, 4, 12, 0, [])])

    def test_the_widest_figure(self):
        for figure in "0123456789":
            face = made_face(9, 1, 3, [(figure, 5), ("m", 50), ("/", 50), (":", 50)])
            self.assertEqual(self.units([page("a")], [face], held=True), [(20, 1, 9, 0, [])])
            narrow = made_face(9, 1, 3, [(figure, 2), ("m", 50)])
            self.assertEqual(self.units([page("a")], [narrow], held=True), [(12, 1, 9, 0, [])])

    def test_the_face_of_the_tone(self):
        stuff = [page("a", tone) for tone in range(4)]
        self.assertEqual([unit[0] for unit in self.units(stuff, [PLAIN, GREAT, FLAT], held=True)], [24, 40, 200, 24])
        self.assertEqual([unit[0] for unit in self.units(stuff, [PLAIN, GREAT, FLAT], number=2, held=True)],
                         [200, 24, 40, 200])

    def test_words_that_are_as_wide_or_wider(self):
        for many, wide in ((3, 24), (4, 24), (5, 30)):
            self.assertEqual(self.units([page("a")], [PLAIN], [("a", "x" * many)], held=True), [(wide, 4, 12, 0, [])])

    def test_words_hold_no_room(self):
        self.assertEqual(self.units([word("1"), word("a", 1)], [PLAIN, GREAT], held=True),
                         [(6, 4, 12, 0, []), (10, 7, 20, 1, [])])


class Notes(Units):
    def test_behind_a_unit(self):
        self.assertEqual(self.units([word("a"), note_piece(0), word("b")], [PLAIN]),
                         [(6, 4, 12, 0, [2]), (6, 4, 12, 2, [])])
        self.assertEqual(self.units([word("a"), page("b"), note_piece(0)], [PLAIN]),
                         [(6, 4, 12, 0, []), (5, 4, 12, 1, [2])])

    def test_several_behind_one(self):
        stuff = [word("a"), note_piece(0), note_piece(1), page("b"), word("c"), note_piece(2)]
        self.assertEqual(self.units(stuff, [PLAIN]), [(6, 4, 12, 0, [2, 3]), (5, 4, 12, 3, []), (6, 4, 12, 4, [4])])

    def test_each_in_its_text(self):
        book = made_book(body(
            node(0, "head", stuff=[word("a"), note_piece(0)]), node(1, "note", stuff=[word("b"), word("cc")]),
            node(0, "case"), node(3, "text", stuff=[word("d"), note_piece(0), note_piece(1)]), node(4, "note"),
            node(4, "note"), node(0, "text", stuff=[word("e"), note_piece(0)]), node(7, "note"),
        ))
        told = self.every(book, plain_looks(9), [PLAIN])
        self.assertEqual([[unit[4] for unit in units] for units in told],
                         [[], [[2]], [[], []], [], [[5, 6]], [[]], [[]], [[8]], [[]]])
        self.assertEqual(told[2], [(6, 4, 12, 0, []), (12, 4, 12, 1, [])])

    def test_many(self):
        stuff = [word("a")] + [note_piece(k) for k in range(57)]
        self.assertEqual(self.units(stuff, [PLAIN]), [(6, 4, 12, 0, list(range(2, 59)))])


class Kinds(Units):
    def test_those_without_units(self):
        book = made_book(rich_nodes())
        told = self.every(book, plain_looks(len(book)), [PLAIN])
        for one, units in zip(book, told):
            self.assertEqual(units == [], one[1] not in ("text", "head", "note"))

    def test_an_ordinary_book(self):
        told = self.every(made_book(rich_nodes()), plain_looks(15), [PLAIN, GREAT], [("end", "10"), ("all", "1")])
        self.assertEqual(told, [
            [], [(18, 4, 12, 0, [2]), (20, 7, 20, 2, [])], [(18, 4, 12, 0, []), (10, 7, 20, 1, [])], [], [], [],
            [(12, 4, 12, 0, []), (10, 7, 20, 1, [7, 8]), (30, 7, 20, 4, [])], [(6, 4, 12, 0, [])], [(10, 7, 20, 0, [])],
            [], [], [(6, 4, 12, 0, [])], [], [(6, 4, 12, 0, [])], [],
        ])

    def test_by_name(self):
        book = made_book(body(node(0, "text")))
        self.assertEqual(all_units(book=book, looks=plain_looks(2), faces=[PLAIN], shown=[], held=True),
                         [[], [(12, 4, 12, 0, [])]])

    def test_what_is_told_is_its_own(self):
        book = made_book(rich_nodes())
        looks = plain_looks(15)
        first = all_units(book, looks, [PLAIN], [])
        second = all_units(book, looks, [PLAIN], [])
        self.assertFalse(share_a_list(first, second, book, looks))
        for one in lists_in(first):
            one.append("more")
        self.assertEqual(all_units(book, looks, [PLAIN], []), second)
        self.assertEqual(book, rich_nodes())


class AnyUnits(Units):
    def right(self, book, looks, faces, shown, held, number):
        """Units once more: first where they stand, then each by itself."""
        stuff = book[number][4] if book[number][1] in ("text", "head", "note") else []
        notes = [k for k, one in enumerate(book) if one[0] == number]
        starts = [k for k, piece in enumerate(stuff) if piece[0] != "note"]
        units = []
        for start, end in zip(starts, starts[1:] + [len(stuff)]):
            sort, thing, tone = stuff[start]
            high, blank, wide, odd = faces[(looks[number][0] + tone) % len(faces)]
            texts = [thing] if sort == "word" else ["".join(w for name, w in shown if name == thing) or "?"]
            texts += [figure * 4 for figure in "0123456789"] if held and sort == "page" else []
            wides = [sum(dict(odd).get(sign, wide) for sign in text) for text in texts]
            units.append((max(wides), blank, high, start, [notes[k] for s, k, t in stuff[start + 1:end]]))
        return units

    def test_each_node(self):
        for seed in range(120):
            chance = random.Random(seed)
            book = any_book(chance)
            looks = any_looks(chance, len(book))
            faces = any_faces(chance)
            shown = [(name, chance.choice(["1", "27", "iii", "999.999"])) for name in ("one", "two", "three")
                     if chance.randrange(2)]
            for held in (False, True):
                told = self.every(book, looks, faces, shown, held=held)
                for number in range(len(book)):
                    self.assertEqual(told[number], self.right(book, looks, faces, shown, held, number), (seed, number))


class RowsHigh(Untouched):
    def test_the_highest(self):
        self.assertEqual(self.ask(rows_high, [(5, 4, 12, 0, [])]), 12)
        self.assertEqual(self.ask(rows_high, [(5, 40, 12, 0, []), (50, 4, 13, 1, [2]), (5, 4, 1, 30, [])]), 13)
        self.assertEqual(self.ask(rows_high, [(5, 4, 100, 0, []), (5, 4, 99, 1, [])]), 100)
        self.assertEqual(rows_high(units=[(9, 9, 1, 9, []), (9, 9, 1, 9, [9])]), 1)

    def test_of_a_text(self):
        book = made_book(body(node(0, "text", stuff=[word("a", 1), word("b", 2), page("c")])))
        units = all_units(book, plain_looks(2), [PLAIN, GREAT, FLAT], [])
        self.assertEqual(rows_high(units[1]), 20)


if __name__ == "__main__":
    unittest.main()
