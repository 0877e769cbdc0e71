import unittest

from leafpress.books import made_book
from leafpress.writer import book_rows
from tests.helpers import Untouched, body, deep_nodes, node, note_piece, page, rich_nodes, word


class BookRows(Untouched):
    def rows(self, nodes):
        return self.ask(book_rows, made_book(nodes))

    def last_row(self, *others):
        return self.rows(body(*others))[-1]

    def test_the_row_of_the_document(self):
        stuff = [word("To"), page("two", 1), note_piece(0), word("go")]
        rows = self.rows(body(node(0, "case"), node(1, "text", "one", ["big"], stuff), node(2, "note")))
        self.assertEqual(rows, ["body", ">case", ">>text #one .big | To *{two} {} go", ">>>note | go"])

    def test_a_rich_book(self):
        self.assertEqual(self.rows(rich_nodes()), [
            "body #all .wide",
            ">head #top .big .red | **One {} *{end}",
            ">>note #foot .small | see ***{all}",
            ">aside",
            ">>picture #pic | 1 2000",
            ">>case .a .b .c .d",
            ">text #one .big | To *{two} {} {} ***go.",
            ">>note | a",
            ">>note | *b",
            ">shelf",
            ">>grid",
            ">>>text | x",
            ">>case",
            ">>>text #two | y",
            ">case #end",
        ])

    def test_each_kind_without_stuff(self):
        self.assertEqual(self.rows(body(node(0, "case"))), ["body", ">case"])
        for kind in ("shelf", "grid"):
            self.assertEqual(self.rows(body(node(0, kind), node(1, "case"))), ["body", ">" + kind, ">>case"])
        nodes = body(node(0, "aside", "a", ["m"]), node(1, "case"), node(0, "text"))
        self.assertEqual(self.rows(nodes), ["body", ">aside #a .m", ">>case", ">text | go"])

    def test_body_with_name_and_marks(self):
        nodes = [node(-1, "body", "name", ["a", "bb"]), node(0, "case", "", ["c"])]
        self.assertEqual(self.rows(nodes), ["body #name .a .bb", ">case .c"])

    def test_names_and_marks(self):
        self.assertEqual(self.last_row(node(0, "case", "abcdefgh")), ">case #abcdefgh")
        self.assertEqual(self.last_row(node(0, "case", "", ["a", "b", "c", "zzzzzzzz"])), ">case .a .b .c .zzzzzzzz")
        self.assertEqual(self.last_row(node(0, "text", "x", ["y"])), ">text #x .y | go")
        self.assertEqual(self.last_row(node(0, "picture", "x", ["y", "z"])), ">picture #x .y .z | 30 20")

    def test_pictures(self):
        for wide, high in ((1, 1), (1, 2000), (2000, 1), (10, 105)):
            row = self.last_row(node(0, "picture", "", [], [wide, high]))
            self.assertEqual(row, f">picture | {wide} {high}")

    def test_tones(self):
        stuff = [word("a", tone) for tone in range(4)] + [page("b", tone) for tone in range(4)]
        self.assertEqual(
            self.last_row(node(0, "text", "", [], stuff)), ">text | a *a **a ***a {b} *{b} **{b} ***{b}")

    def test_words_with_points(self):
        stuff = [word("Az09.,-;:'()!?"), word(".", 1), word("?"), page("q")]
        self.assertEqual(self.last_row(node(0, "head", "", [], stuff)), ">head | Az09.,-;:'()!? *. ? {q}")

    def test_notes(self):
        stuff = [page("p"), note_piece(0), word("w", 2), note_piece(1)]
        for kind in ("text", "head"):
            rows = self.rows(body(node(0, kind, "", [], stuff), node(1, "note"), node(1, "note")))
            self.assertEqual(rows, ["body", f">{kind} | {{p}} {{}} **w {{}}", ">>note | go", ">>note | go"])

    def test_sixty_pieces(self):
        row = self.last_row(node(0, "text", "", [], [word(f"w{k}") for k in range(60)]))
        self.assertEqual(row, ">text | " + " ".join(f"w{k}" for k in range(60)))

    def test_levels(self):
        rows = self.rows(deep_nodes() + [node(3, "head"), node(0, "case"), node(8, "case")])
        self.assertEqual(rows, [
            "body", ">case", ">>case", ">>>case", ">>>>case", ">>>>>case", ">>>>>>text | go",
            ">>>>head | go", ">case", ">>case",
        ])

    def test_what_is_told_is_its_own(self):
        book = made_book(rich_nodes())
        first = book_rows(book=book)
        self.assertIs(type(first), list)
        self.assertTrue(all(type(row) is str for row in first))
        whole = list(first)
        first.clear()
        self.assertEqual(book_rows(book), whole)
        self.assertEqual(book, rich_nodes())


if __name__ == "__main__":
    unittest.main()
