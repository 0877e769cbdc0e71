import unittest

from leafpress.errors import NoFace
from leafpress.faces import face_at, made_face, word_width
from tests.helpers import Untouched, share_a_list


class MadeFace(Untouched):
    def test_a_face_is_a_tuple_with_a_list_of_odd_signs(self):
        face = self.ask(made_face, 12, 4, 6, [("i", 3), ("m", 9)])
        self.assertEqual(face, (12, 4, 6, [("i", 3), ("m", 9)]))
        self.assertIs(type(face), tuple)
        self.assertIs(type(face[3]), list)
        self.assertTrue(all(type(one) is tuple for one in face[3]))

    def test_arguments_have_their_names(self):
        self.assertEqual(made_face(high=12, blank=4, wide=6, odd=[("i", 3)]), (12, 4, 6, [("i", 3)]))
        self.assertEqual(made_face(high=12, blank=4, wide=6), (12, 4, 6, []))

    def test_bounds_are_within(self):
        for high, blank, wide in [(1, 4, 6), (100, 4, 6), (12, 0, 6), (12, 50, 6), (12, 4, 1), (12, 4, 50)]:
            with self.subTest((high, blank, wide)):
                self.assertEqual(self.ask(made_face, high, blank, wide), (high, blank, wide, []))

    def test_one_beyond_each_bound_is_refused(self):
        for high, blank, wide in [(0, 4, 6), (101, 4, 6), (12, -1, 6), (12, 51, 6), (12, 4, 0), (12, 4, 51)]:
            with self.subTest((high, blank, wide)):
                self.refused(NoFace, made_face, high, blank, wide)
                self.refused(NoFace, made_face, high, blank, wide, [("i", 3)])

    def test_far_beyond_is_refused(self):
        for high, blank, wide in [(-12, 4, 6), (1000, 4, 6), (12, -40, 6), (12, 400, 6), (12, 4, -6), (12, 4, 600)]:
            self.refused(NoFace, made_face, high, blank, wide)

    def test_bounds_of_odd_widths(self):
        for width in (1, 50):
            self.assertEqual(self.ask(made_face, 12, 4, 6, [("i", width)])[3], [("i", width)])
        for width in (0, 51, -3, 500):
            with self.subTest(width):
                self.refused(NoFace, made_face, 12, 4, 6, [("i", width)])
                self.refused(NoFace, made_face, 12, 4, 6, [("a", 2), ("i", width), ("z", 2)])
                self.refused(NoFace, made_face, 12, 4, 6, [("a", 2), ("b", 2), ("i", width)])

    def test_no_odd_signs(self):
        self.assertEqual(made_face(12, 4, 6), (12, 4, 6, []))
        self.assertEqual(self.ask(made_face, 12, 4, 6, None), (12, 4, 6, []))
        self.assertEqual(self.ask(made_face, 12, 4, 6, []), (12, 4, 6, []))

    def test_odd_signs_are_told_sorted(self):
        given = [("m", 9), ("i", 3), (".", 2), ("Z", 7), ("a", 5)]
        told = [(".", 2), ("Z", 7), ("a", 5), ("i", 3), ("m", 9)]
        self.assertEqual(self.ask(made_face, 12, 4, 6, given)[3], told)
        self.assertEqual(self.ask(made_face, 12, 4, 6, told)[3], told)

    def test_any_sign_of_a_text_may_be_odd(self):
        signs = "\t\n" + "".join(chr(code) for code in range(32, 127))
        given = [(sign, 1 + place % 50) for place, sign in enumerate(signs)]
        self.assertEqual(self.ask(made_face, 12, 4, 6, given[::-1])[3], given)

    def test_an_odd_sign_twice_is_refused(self):
        self.refused(NoFace, made_face, 12, 4, 6, [("i", 3), ("i", 3)])
        self.refused(NoFace, made_face, 12, 4, 6, [("i", 3), ("i", 4)])
        self.refused(NoFace, made_face, 12, 4, 6, [("i", 3), ("m", 9), ("i", 3)])
        self.refused(NoFace, made_face, 12, 4, 6, [("i", 4), ("m", 9), ("i", 3)])

    def test_great_and_small_letters_are_unlike(self):
        self.assertEqual(made_face(12, 4, 6, [("i", 3), ("I", 3)])[3], [("I", 3), ("i", 3)])

    def test_an_odd_sign_is_one_sign(self):
        for sign in ("", "ii", "im", "  "):
            with self.subTest(sign):
                self.refused(NoFace, made_face, 12, 4, 6, [(sign, 3)])
                self.refused(NoFace, made_face, 12, 4, 6, [("a", 3), (sign, 3)])

    def test_what_is_told_is_its_own(self):
        given = [("i", 3), ("m", 9)]
        first = made_face(12, 4, 6, given)
        second = made_face(12, 4, 6, given)
        self.assertFalse(share_a_list(given, first, second))
        first[3].append(("x", 1))
        self.assertEqual(given, [("i", 3), ("m", 9)])
        self.assertEqual(second, (12, 4, 6, [("i", 3), ("m", 9)]))
        given.clear()
        self.assertEqual(second, (12, 4, 6, [("i", 3), ("m", 9)]))

    def test_what_is_told_without_odd_signs_is_its_own(self):
        for given in ((12, 4, 6), (12, 4, 6, None), (12, 4, 6, [])):
            first = made_face(*given)
            first[3].append(("x", 1))
            self.assertEqual(made_face(*given), (12, 4, 6, []))
        self.assertEqual(given, (12, 4, 6, []))


class WordWidth(Untouched):
    def test_without_odd_signs(self):
        face = made_face(12, 4, 6)
        self.assertEqual(self.ask(word_width, face, "a"), 6)
        self.assertEqual(self.ask(word_width, face, "word"), 24)
        self.assertEqual(self.ask(word_width, face, "a" * 20), 120)
        self.assertEqual(self.ask(word_width, face, "Az09.,-;:'()!?"), 84)

    def test_with_odd_signs(self):
        face = made_face(12, 4, 6, [("m", 9), ("i", 3), ("?", 1), ("z", 50)])
        self.assertEqual(self.ask(word_width, face, "i"), 3)
        self.assertEqual(self.ask(word_width, face, "?"), 1)
        self.assertEqual(self.ask(word_width, face, "a"), 6)
        self.assertEqual(self.ask(word_width, face, "I"), 6)
        self.assertEqual(self.ask(word_width, face, "mimi?"), 25)
        self.assertEqual(self.ask(word_width, face, "aim"), 18)
        self.assertEqual(self.ask(word_width, face, "m" * 20), 180)
        self.assertEqual(self.ask(word_width, face, "ab" + "i" * 17 + "z"), 113)

    def test_neither_high_nor_blank_counts(self):
        for high, blank in ((1, 0), (100, 50)):
            self.assertEqual(word_width(made_face(high, blank, 7, [("i", 2)]), "sit"), 16)

    def test_is_an_int_and_arguments_have_their_names(self):
        told = word_width(face=(12, 4, 6, [("i", 3)]), word="it")
        self.assertEqual(told, 9)
        self.assertIs(type(told), int)


class FaceAt(Untouched):
    def faces(self, many):
        return [made_face(10 + place, place, 1 + place, [("i", 1 + place)]) for place in range(many)]

    def test_below_how_many_there_are(self):
        faces = self.faces(8)
        for number in range(8):
            self.assertEqual(self.ask(face_at, faces, number), faces[number])

    def test_at_and_above_how_many_there_are(self):
        for many in range(1, 9):
            faces = self.faces(many)
            for number in (many - 1, many, many + 1, 2 * many - 1, 2 * many, 7 * many + many // 2, 102):
                with self.subTest((many, number)):
                    self.assertEqual(self.ask(face_at, faces, number), faces[number % many])

    def test_great_numbers(self):
        faces = self.faces(7)
        self.assertEqual(face_at(faces, 10 ** 30), faces[1])
        self.assertEqual(face_at(faces, 7 * 10 ** 40), faces[0])
        self.assertEqual(face_at(faces, 7 * 10 ** 40 + 6), faces[6])

    def test_one_face(self):
        faces = self.faces(1)
        for number in (0, 1, 2, 99):
            self.assertEqual(face_at(faces, number), faces[0])

    def test_what_is_told_is_its_own(self):
        faces = self.faces(2)
        first = face_at(faces, 1)
        second = face_at(faces, 3)
        self.assertFalse(share_a_list(faces, first, second))
        first[3].append(("x", 1))
        self.assertEqual(faces, self.faces(2))
        self.assertEqual(second, self.faces(2)[1])
        self.assertEqual(face_at(faces, 1), self.faces(2)[1])

    def test_arguments_have_their_names(self):
        told = face_at(faces=self.faces(3), number=4)
        self.assertEqual(told, (11, 1, 2, [("i", 2)]))
        self.assertIs(type(told), tuple)
        self.assertIs(type(told[3]), list)


if __name__ == "__main__":
    unittest.main()
