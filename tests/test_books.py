import copy
import unittest

from leafpress.books import holds, made_book
from leafpress.errors import NoBook, NoNode
from tests.helpers import Untouched, body, deep_nodes, node, note_piece, page, rich_nodes, share_a_list, word

BLOCKS = ["case", "shelf", "grid", "text", "head", "picture"]
KINDS = ["body", "case", "shelf", "grid", "text", "head", "picture", "aside", "note"]
HOLD = {
    "body": BLOCKS + ["aside"],
    "case": BLOCKS + ["aside"],
    "aside": BLOCKS,
    "shelf": ["case", "shelf", "grid", "text", "picture"],
    "grid": ["case", "shelf", "grid", "text", "picture"],
    "text": ["note"],
    "head": ["note"],
    "note": [],
    "picture": [],
}


def put(nodes, elder, kind, **told):
    """Adds a node, and what it needs to be whole but for what is put in it later."""
    nodes.append(node(elder, kind, **told))
    return len(nodes) - 1


def holding(elder_kind, kind):
    """A book in which a node of one kind holds one of another, all else being right."""
    stuff = [word(), note_piece(0)] if kind == "note" and elder_kind in ("text", "head") else None
    nodes = body()
    if elder_kind == "note":
        elder = put(nodes, put(nodes, 0, "text", stuff=[word(), note_piece(0)]), "note")
    elif elder_kind == "body":
        elder = 0
    else:
        elder = put(nodes, 0, elder_kind, stuff=stuff)
    held = put(nodes, elder, kind)
    if kind in ("body", "shelf", "grid", "aside"):
        put(nodes, held, "text")
    if kind == "aside":
        put(nodes, elder, "text")
    if elder_kind == "aside":
        put(nodes, 0, "text")
    return nodes


class MadeBook(Untouched):
    def made(self, nodes):
        book = self.ask(made_book, nodes)
        self.assertEqual(book, nodes)
        return book

    def test_a_rich_book(self):
        book = self.made(rich_nodes())
        self.assertIs(type(book), list)
        self.assertEqual({one[1] for one in book}, set(KINDS))
        for one in book:
            self.assertIs(type(one), tuple)
            self.assertEqual([type(part) for part in one], [int, str, str, list, list])
        self.assertEqual(made_book(nodes=rich_nodes()), book)

    def test_a_book_is_made_of_a_book(self):
        book = made_book(rich_nodes())
        self.assertEqual(self.made(book), rich_nodes())

    def test_the_least_books(self):
        for kind in ("case", "text", "head", "picture"):
            self.made(body(node(0, kind)))

    def test_who_may_hold_whom(self):
        for elder_kind in KINDS:
            for kind in HOLD[elder_kind]:
                with self.subTest((elder_kind, kind)):
                    self.made(holding(elder_kind, kind))

    def test_six_levels(self):
        self.made(deep_nodes())
        nodes = deep_nodes()[:5] + [node(4, "text", stuff=[word(), note_piece(0)]), node(5, "note")]
        self.made(nodes)

    def test_sixty_nodes(self):
        self.made(body(*[node(0, "text") for k in range(59)]))

    def test_sixty_pieces(self):
        for kind in ("text", "head"):
            self.made(body(node(0, kind, stuff=[word(f"w{k}", k % 4) for k in range(60)])))
            stuff = [word() for k in range(59)] + [note_piece(0)]
            self.made(body(node(0, kind, stuff=stuff), node(1, "note", stuff=[word() for k in range(60)])))

    def test_a_note_for_each_of_many_note_pieces(self):
        nodes = body(node(0, "text", stuff=[word()] + [note_piece(k) for k in range(58)]))
        self.made(nodes + [node(1, "note") for k in range(58)])

    def test_names_and_marks(self):
        self.made([
            node(-1, "body", "abcdefgh", ["a", "b", "c", "d"]),
            node(0, "case", "z", ["abcdefgh", "abcdefgi", "b", "zzzzzzzz"]),
            node(0, "case", "abcdefg", ["a"]),
            node(0, "case"),
            node(0, "case", "abcdefgi"),
            node(0, "text", "qrstuvwx", ["ijklmnop", "qrstuvwx", "yz"]),
        ])

    def test_a_mark_may_be_like_a_name(self):
        self.made([node(-1, "body", "one", ["one"]), node(0, "case", "two", ["one", "two"])])

    def test_pictures(self):
        for sides in ([1, 1], [2000, 2000], [1, 2000], [2000, 1]):
            self.made(body(node(0, "picture", stuff=sides)))

    def test_words(self):
        for text in ("a", "z", "A", "Z", "0", "9", ".", "Az09.,-;:'()!?", "w" * 20, "?", "--", "('')"):
            with self.subTest(text):
                for kind in ("text", "head"):
                    self.made(body(node(0, kind, stuff=[word(text)])))

    def test_all_signs_of_words(self):
        for sign in "abcdefghijklmnopqrstuvwxyzABCDEFGHIJKLMNOPQRSTUVWXYZ0123456789.,-;:'()!?":
            self.made(body(node(0, "text", stuff=[word(sign)])))

    def test_pages(self):
        for name in ("a", "z", "abcdefgh", "nowhere"):
            self.made(body(node(0, "text", stuff=[page(name), page(name, 3)])))

    def test_tones(self):
        for tone in range(4):
            self.made(body(node(0, "text", stuff=[word("a", tone), page("b", tone)])))

    def test_texts_with_notes(self):
        for kind in ("text", "head"):
            stuff = [word(), note_piece(0), note_piece(1), word(), note_piece(2), page("a")]
            self.made(body(node(0, kind, stuff=stuff), *[node(1, "note") for k in range(3)], node(0, "text")))

    def test_an_aside_with_a_text_next_to_it(self):
        self.made(body(node(0, "aside"), node(1, "text"), node(0, "text")))
        self.made(body(node(0, "case"), node(1, "aside"), node(2, "head"), node(1, "text"), node(1, "head")))
        self.made(body(
            node(0, "aside"), node(1, "picture"), node(0, "text"), node(0, "aside"), node(4, "case"),
            node(5, "aside"), node(6, "case"), node(5, "text"), node(0, "text"),
        ))

    def test_an_elder_may_be_any_one_above_the_node_ahead(self):
        for elder in range(6):
            self.made(deep_nodes() + [node(elder, "text")])

    def test_what_is_told_is_its_own(self):
        for nodes in (rich_nodes(), body(node(0, "case"), node(1, "text", "a", ["b"]))):
            whole = copy.deepcopy(nodes)
            first = made_book(nodes)
            second = made_book(nodes)
            self.assertFalse(share_a_list(nodes, first, second))
            for one in first:
                one[3].append("zz")
                one[4].append(word())
            first.clear()
            self.assertEqual(nodes, whole)
            self.assertEqual(second, whole)
            for one in nodes:
                one[3].clear()
                one[4].clear()
            nodes.clear()
            self.assertEqual(second, whole)

    def test_no_list_stands_twice_in_what_is_told(self):
        none = []
        mark = ["a"]
        stuff = [word()]
        nodes = [
            (-1, "body", "", none, none), (0, "case", "", none, none), (1, "text", "", mark, stuff),
            (0, "text", "", mark, stuff), (0, "case", "", mark, none),
        ]
        self.assertFalse(share_a_list(self.made(nodes)))


class NoBooks(Untouched):
    def no(self, nodes):
        self.refused(NoBook, made_book, nodes)

    def no_node(self, *broken):
        """Refused where the broken ones hang in the body, and where something stands ahead and behind."""
        self.no(body(*broken))
        self.no(body(*broken, node(0, "text")))

    def no_stuff(self, kind, stuff):
        if kind == "note":
            self.no_node(node(0, "text", stuff=[word(), note_piece(0)]), node(1, "note", stuff=stuff))
        else:
            self.no_node(node(0, kind, stuff=stuff))

    def no_piece(self, piece):
        for kind in ("text", "head", "note"):
            with self.subTest((kind, piece)):
                self.no_stuff(kind, [piece])
                self.no_stuff(kind, [word(), piece])
                self.no_stuff(kind, [word(), piece, word()])

    def test_how_many_nodes(self):
        self.no([])
        self.no(body(*[node(0, "text") for k in range(60)]))
        self.no(body(*[node(0, "text") for k in range(90)]))

    def test_nodes_of_another_length(self):
        self.no(body(node(0, "case")[:4]))
        self.no(body(node(0, "case") + ([],)))
        self.no(body(()))

    def test_elder_of_node_0(self):
        for elder in (0, 1, -2, 5):
            self.no([node(elder, "body"), node(0, "text")])

    def test_elder_of_another_one(self):
        for elder in (-1, -2, 1, 2, 3, 60):
            with self.subTest(elder):
                self.no(body(node(elder, "case")))
                self.no(body(node(elder, "case"), node(0, "case")))

    def test_elder_in_which_the_node_ahead_does_not_hang(self):
        self.no(body(node(0, "case"), node(0, "case"), node(1, "case")))
        self.no(body(node(0, "case"), node(1, "case"), node(0, "case"), node(2, "case")))
        self.no(body(node(0, "case"), node(1, "case"), node(1, "case"), node(2, "case")))
        self.no(body(node(0, "case"), node(1, "text"), node(0, "text"), node(1, "text")))

    def test_kind(self):
        for kind in ("", "Text", "TEXT", "texts", "tex", "block", "page", "text ", "word"):
            with self.subTest(kind):
                self.no_node(node(0, kind, stuff=[]))
                self.no_node(node(0, kind, stuff=[word()]))

    def test_node_0_is_a_body_and_no_other_one(self):
        for kind in ("case", "shelf", "grid", "aside"):
            self.no([node(-1, kind), node(0, "text")])
        self.no([node(-1, "case")])
        self.no([node(-1, "text")])
        self.no([node(-1, "picture")])
        self.no(body(node(0, "body"), node(1, "text")))
        self.no(body(node(0, "text"), node(0, "body"), node(2, "text")))
        self.no(body(node(0, "case"), node(1, "body"), node(2, "text")))
        self.no(body(node(0, "text"), node(-1, "body"), node(2, "text")))

    def test_names(self):
        for name in ("abcdefghi", "A", "aB", "a1", "1", "a b", " ", "a-b", "a_b", "#a", "a.", "a\n", "a\t", "?"):
            with self.subTest(name):
                for kind in ("case", "text", "head", "picture"):
                    self.no_node(node(0, kind, name))
                self.no([node(-1, "body", name), node(0, "text")])

    def test_no_two_nodes_have_one_name(self):
        self.no_node(node(0, "case", "a"), node(0, "case", "a"))
        self.no_node(node(0, "case", "a"), node(1, "text", "b"), node(0, "text", "c"), node(0, "head", "b"))
        self.no([node(-1, "body", "one"), node(0, "text"), node(0, "picture", "one")])
        self.no_node(node(0, "text", "a", stuff=[word(), note_piece(0)]), node(1, "note", "a"))

    def test_marks(self):
        for marks in (
            ["b", "a"], ["a", "c", "b"], ["a", "a"], ["a", "b", "b"], ["a", "b", "c", "d", "e"], [""], ["", "a"],
            ["A"], ["a1"], ["abcdefghi"], ["a", "abcdefghi"], ["a b"], [".a"], ["a-"], ["a", "b", "c", "d", "D"],
            ["b", "b", "a"], ["a\n"],
        ):
            with self.subTest(marks):
                self.no_node(node(0, "case", "", marks))
                self.no_node(node(0, "text", "x", marks))
                self.no([node(-1, "body", "", marks), node(0, "text")])

    def test_stuff_of_kinds_that_have_none(self):
        for stuff in ([word()], [30, 20], [1], [""]):
            with self.subTest(stuff):
                self.no([node(-1, "body", stuff=stuff), node(0, "text")])
                self.no_node(node(0, "case", stuff=stuff))
                for kind in ("shelf", "grid", "aside"):
                    self.no(body(node(0, kind, stuff=stuff), node(1, "text"), node(0, "text")))

    def test_level(self):
        for kind in ("text", "case", "head", "picture"):
            self.no(deep_nodes()[:6] + [node(5, "case"), node(6, kind)])
        nodes = deep_nodes()[:6] + [node(5, "text", stuff=[word(), note_piece(0)]), node(6, "note")]
        self.no(nodes)
        self.no(nodes + [node(0, "text")])

    def test_who_may_not_hold_whom(self):
        for elder_kind in KINDS:
            for kind in KINDS:
                if kind not in HOLD[elder_kind]:
                    with self.subTest((elder_kind, kind)):
                        self.no(holding(elder_kind, kind))

    def test_one_wrong_one_among_right_ones(self):
        for kind in ("shelf", "grid"):
            self.no(body(node(0, kind), node(1, "text"), node(1, "head"), node(1, "text")))
            self.no(body(node(0, kind), node(1, "text"), node(1, "case"), node(1, "head")))
        self.no(body(node(0, "text", stuff=[word(), note_piece(0)]), node(1, "note"), node(1, "text")))

    def test_note_under_what_has_no_note_pieces(self):
        for kind in ("case", "shelf", "grid"):
            self.no(body(node(0, kind), node(1, "text"), node(1, "note")))
        self.no(body(node(0, "text"), node(0, "note")))

    def test_who_holds_one_at_least(self):
        self.no(body())
        self.no([node(-1, "body", "a", ["b"])])
        for kind in ("shelf", "grid", "aside"):
            self.no(body(node(0, kind), node(0, "text")))
            self.no(body(node(0, "case"), node(1, kind), node(1, "text")))
        for kind in ("shelf", "grid"):
            self.no(body(node(0, kind)))
            self.no(body(node(0, "text"), node(0, kind)))
            self.no(body(node(0, "shelf"), node(1, "text"), node(1, kind)))

    def test_an_aside_has_a_text_next_to_it(self):
        self.no(body(node(0, "aside"), node(1, "text")))
        self.no(body(node(0, "text"), node(0, "aside"), node(2, "text")))
        for kind in ("case", "head", "picture"):
            self.no(body(node(0, "aside"), node(1, "text"), node(0, kind)))
            self.no(body(node(0, "aside"), node(1, "text"), node(0, kind), node(0, "text")))
        for kind in ("shelf", "grid", "aside"):
            self.no(body(node(0, "aside"), node(1, "text"), node(0, kind), node(3, "text"), node(0, "text")))

    def test_the_text_next_to_an_aside_has_the_same_elder(self):
        self.no(body(node(0, "case"), node(1, "aside"), node(2, "text"), node(0, "text")))
        self.no(body(node(0, "text"), node(0, "case"), node(2, "text"), node(2, "aside"), node(4, "text"),
                     node(0, "text")))

    def test_stuff_of_pictures(self):
        for stuff in (
            [], [30], [30, 20, 10], [0, 20], [30, 0], [2001, 20], [30, 2001], [-1, 20], [30, -20], ["30", "20"],
            ["30", 20], [30, "20"], [word()], [word(), word()], [(30, 20)],
        ):
            with self.subTest(stuff):
                self.no_stuff("picture", stuff)

    def test_how_many_pieces(self):
        for kind in ("text", "head", "note"):
            self.no_stuff(kind, [])
            self.no_stuff(kind, [word() for k in range(61)])
        for kind in ("text", "head"):
            self.no(body(node(0, kind, stuff=[word() for k in range(60)] + [note_piece(0)]), node(1, "note")))

    def test_pieces_of_no_sort(self):
        for piece in (
            ("", "go", 0), ("Word", "go", 0), ("words", "go", 0), ("text", "go", 0), ("Page", "a", 0),
            ("word", "go"), ("word", "go", 0, 0), (), ("word",), ("page", "a"), 5, "go", "word",
        ):
            self.no_piece(piece)

    def test_words_that_are_none(self):
        for text in ("", "w" * 21, "a b", " ", "a ", "*", "a*", "{a}", "#a", "|", "a/b", "a_b", '"', "a\n", "a\t",
                     "+", "<", "=", "[", "~", "@", "&", "$", "`", "^", "\\", ">", "}", 5):
            self.no_piece(word(text))

    def test_pages_that_are_none(self):
        for name in ("", "abcdefghi", "A", "aB", "a1", "1", "a b", "?", "a-b", "{a}", "a\n", 5):
            self.no_piece(page(name))

    def test_tones_that_are_none(self):
        for tone in (-1, 4, 40, "0", ""):
            self.no_piece(word("a", tone))
            self.no_piece(page("a", tone))

    def test_note_pieces_that_are_none(self):
        for kind in ("text", "head"):
            for piece in (("note", 0, 1), ("note", 0, 3), ("note", 0, -1), ("note", 1, 0), ("note", -1, 0),
                          ("note", "0", 0), ("note", "", 0), ("note", "a", 0), ("note", 0), ("note", 0, "0")):
                with self.subTest((kind, piece)):
                    self.no(body(node(0, kind, stuff=[word(), piece]), node(1, "note")))

    def test_the_first_piece_is_no_note(self):
        for kind in ("text", "head"):
            self.no(body(node(0, kind, stuff=[note_piece(0)]), node(1, "note")))
            self.no(body(node(0, kind, stuff=[note_piece(0), word()]), node(1, "note")))

    def test_note_pieces_have_their_numbers_in_order(self):
        for kind in ("text", "head"):
            for numbers in ([1, 0], [0, 0], [1, 1], [1, 2], [0, 2], [0, 3], [2, 3]):
                with self.subTest((kind, numbers)):
                    stuff = [word()] + [note_piece(number) for number in numbers]
                    self.no(body(node(0, kind, stuff=stuff), node(1, "note"), node(1, "note")))

    def test_as_many_note_pieces_as_notes(self):
        for kind in ("text", "head"):
            for pieces in range(4):
                for notes in range(4):
                    stuff = [word()] + [note_piece(number) for number in range(pieces)]
                    nodes = body(node(0, kind, stuff=stuff), *[node(1, "note") for k in range(notes)])
                    if pieces == notes:
                        self.assertEqual(made_book(nodes), nodes)
                    else:
                        with self.subTest((kind, pieces, notes)):
                            self.no(nodes)
                            self.no(nodes + [node(0, "text")])

    def test_notes_of_another_text_do_not_count(self):
        stuff = [word(), note_piece(0)]
        self.no(body(node(0, "text", stuff=stuff), node(0, "text"), node(2, "note")))
        self.no(body(node(0, "text"), node(1, "note"), node(0, "text", stuff=stuff)))

    def test_a_note_has_no_note_pieces(self):
        for number in (0, 1):
            self.no_stuff("note", [word(), note_piece(number)])
            self.no_stuff("note", [word(), note_piece(number), word()])

    def test_a_fault_in_the_last_of_sixty_nodes(self):
        nodes = body(*[node(0, "text") for k in range(58)])
        self.assertEqual(made_book(nodes + [node(0, "text")]), nodes + [node(0, "text")])
        self.no(nodes + [node(0, "shelf")])
        self.no(nodes + [node(0, "text", "", ["b", "a"])])
        self.no(nodes + [node(0, "text", stuff=[word("a", 4)])])


class Holds(Untouched):
    def test_each_node_of_a_rich_book(self):
        book = made_book(rich_nodes())
        told = [self.ask(holds, book, number) for number in range(len(book))]
        self.assertEqual(told, [
            [1, 3, 6, 9, 14], [2], [], [4, 5], [], [], [7, 8], [], [], [10, 12], [11], [], [13], [], [],
        ])

    def test_only_what_hangs_in_the_node_itself(self):
        book = made_book(deep_nodes())
        self.assertEqual([holds(book, number) for number in range(7)], [[1], [2], [3], [4], [5], [6], []])

    def test_many(self):
        book = made_book(body(*[node(0, "text") for k in range(59)]))
        self.assertEqual(holds(book=book, node=0), list(range(1, 60)))
        self.assertEqual(holds(book=book, node=59), [])

    def test_what_is_told_is_its_own(self):
        book = made_book(rich_nodes())
        first = holds(book, 0)
        self.assertIs(type(first), list)
        first.clear()
        self.assertEqual(holds(book, 0), [1, 3, 6, 9, 14])
        holds(book, 2).append(5)
        self.assertEqual(holds(book, 2), [])
        self.assertEqual(book, rich_nodes())

    def test_a_number_that_no_node_has(self):
        for nodes in (rich_nodes(), body(node(0, "text")), deep_nodes()):
            book = made_book(nodes)
            for number in (-1, -2, -len(book), -100, len(book), len(book) + 1, 10 ** 20):
                with self.subTest((len(book), number)):
                    self.refused(NoNode, holds, book, number)


if __name__ == "__main__":
    unittest.main()
