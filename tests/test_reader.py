import unittest

from leafpress.books import made_book
from leafpress.reader import read_book
from leafpress.writer import book_rows
from tests.helpers import Untouched, body, deep_nodes, lists_in, node, note_piece, page, rich_nodes
from tests.helpers import share_a_list, word

BARE = [word("?")]


class Reading(Untouched):
    """Tests that read rows, and look each time whether a book was told that is read again without mends."""

    def read(self, rows):
        told = self.ask(read_book, rows)
        self.assertIs(type(told), tuple)
        book, mends = told
        self.assertEqual(made_book(book), book)
        self.assertEqual(read_book(book_rows(book)), (book, []))
        self.assertIs(type(mends), list)
        for mend in mends:
            self.assertEqual([type(mend)] + [type(one) for one in mend], [tuple, int, str])
        return told

    def reads(self, rows, right_rows, mends):
        """The rows are read to the book that the right ones tell, with these mends."""
        book, told = self.read(rows)
        self.assertEqual(book_rows(book), right_rows)
        self.assertEqual(told, mends)


class WrittenAndRead(Reading):
    def same(self, nodes):
        book = made_book(nodes)
        self.assertEqual(self.read(book_rows(book)), (nodes, []))

    def test_a_rich_book(self):
        self.same(rich_nodes())

    def test_each_kind(self):
        for kind in ("case", "text", "head", "picture"):
            self.same(body(node(0, kind)))
        for kind in ("shelf", "grid"):
            for held in ("case", "text", "picture"):
                self.same(body(node(0, kind), node(1, held)))
        self.same(body(node(0, "aside"), node(1, "case"), node(0, "text")))
        self.same(body(node(0, "head", stuff=[word(), note_piece(0)]), node(1, "note")))

    def test_names_and_marks(self):
        self.same([
            node(-1, "body", "abcdefgh", ["a", "b", "c", "d"]), node(0, "case", "z", ["abcdefgh", "z"]),
            node(0, "text", "body", ["text"]), node(0, "picture", "x", ["x"]), node(0, "head", "", ["m"]),
        ])

    def test_tones_pages_and_words(self):
        tones = [word("a", tone) for tone in range(4)] + [page("b", tone) for tone in range(4)]
        odd = [word("Az09.,-;:'()!?"), word(".", 1), word("?"), word("w" * 20, 3), page("abcdefgh")]
        for stuff in (tones, odd, [page("one")], [word(".a"), word("...", 2), word("0"), word("text")]):
            for kind in ("text", "head"):
                self.same(body(node(0, kind, stuff=stuff)))
            self.same(body(node(0, "text", stuff=[word(), note_piece(0)]), node(1, "note", stuff=stuff)))

    def test_notes(self):
        stuff = [word(), note_piece(0), note_piece(1), page("a"), note_piece(2), word()]
        for kind in ("text", "head"):
            self.same(body(node(0, kind, stuff=stuff), *[node(1, "note", f"n{'abc'[k]}") for k in range(3)]))
        stuff = [word()] + [note_piece(k) for k in range(58)]
        self.same(body(node(0, "text", stuff=stuff), *[node(1, "note") for k in range(58)]))

    def test_pictures(self):
        for sides in ([1, 1], [2000, 2000], [1, 2000], [2000, 1], [10, 999]):
            self.same(body(node(0, "picture", stuff=sides)))

    def test_six_levels(self):
        self.same(deep_nodes())
        self.same(deep_nodes()[:5] + [node(4, "text", stuff=[word(), note_piece(0)]), node(5, "note")])
        for elder in range(6):
            self.same(deep_nodes() + [node(elder, "text")])

    def test_sixty_nodes_and_pieces(self):
        self.same(body(*[node(0, "text", stuff=[word(f"w{k}")]) for k in range(59)]))
        self.same(body(node(0, "text", stuff=[word(f"w{k}", k % 4) for k in range(60)])))

    def test_asides(self):
        self.same(body(
            node(0, "aside"), node(1, "picture"), node(0, "text"), node(0, "aside"), node(4, "case"),
            node(5, "aside"), node(6, "case"), node(5, "text"), node(0, "text"),
        ))

    def test_the_row_of_the_document(self):
        book, mends = self.read(["body", ">case", ">>text #one .big | To *{two} {} go", ">>>note | go"])
        self.assertEqual(mends, [])
        self.assertEqual(book[2], (1, "text", "one", ["big"], [
            word("To"), page("two", 1), note_piece(0), word("go"),
        ]))


class Forms(Reading):
    """Rows that are left out, and rows near to them that are not."""

    def left_out(self, *rows):
        for row in rows:
            with self.subTest(row):
                self.reads(["body", row, ">text | go"], ["body", ">text | go"], [(1, "form")])
                self.reads(["body", ">text | go", row], ["body", ">text | go"], [(2, "form")])
                self.reads([row, "body", ">text | go"], ["body", ">text | go"], [(0, "form")])

    def kept(self, *rows):
        for row in rows:
            with self.subTest(row):
                self.reads(["body", row], ["body", row], [])

    def test_a_row_without_signs(self):
        self.left_out("", " ", "  ", ">", ">>", "> ", "\n", "\t")

    def test_blanks(self):
        self.left_out(
            "> text | a", ">text  | a", ">text |  a", ">text | a  b", " >text | a", ">text | a ", ">case ", " >case",
            ">case  #a", ">case #a  .b", ">case #a .b ", ">text| a", ">text |a", ">text|a", ">case#a", ">case.a",
            ">case #a.b", ">case # a", ">case . a", ">picture | 1  2", ">picture |1 2", ">picture | 12", ">> case",
            ">text | * a", ">text | { a}", ">text | {a }", ">text | { }", ">text |", ">text | ",
        )

    def test_line_ends_and_tabs(self):
        self.left_out(">case\n", "\n>case", ">case\t#a", ">case #a\n", ">case .a\n", ">text | a\n", ">text | a\tb",
                      ">text |\ta", ">picture | 1 2\n", ">text | {a\n}", ">case\r", ">text | a\nb")

    def test_levels_behind_the_kind(self):
        self.left_out("text> | a", "case>", "case >", ">case >", ">case>", "te>xt | a", ">text | >a", "#>case")

    def test_other_signs_among_the_levels(self):
        for sign in "ax.#*|-~{<":
            self.left_out(f"{sign}case", f">{sign}case", f">{sign}>case", f"{sign}>text | a")

    def test_kinds(self):
        self.left_out(">cases", ">cas", ">Case", ">TEXT | a", ">block", ">texts | a", ">word | a", ">casecase",
                      ">#case", ">| a", ">.a", ">#a", ">case text | a")

    def test_words(self):
        for sign in "#$%&\"+/<=>@[\\]^_`|~{}*\t\n":
            self.left_out(f">text | a{sign}", f">text | a{sign}b", f">head | b a{sign}a b")
        self.left_out(">text | " + "w" * 21, ">text | a " + "w" * 21 + " b", ">text | a | b", ">text | a |")
        self.kept(">text | " + "w" * 20, ">text | *" + "w" * 20, ">text | -", ">head | ()'!?:;,.-")

    def test_names(self):
        self.left_out(">case #", ">case #abcdefghi", ">case #A", ">case #aB", ">case #a1", ">case #a-", ">case ##a",
                      ">case #a #b", ">case #a #a", ">case .b #a", ">case #a .b #c", ">case a", ">text #a b | c",
                      ">case #.a", ">case #{a}", "case#", ">text # | a")
        self.kept(">case #abcdefgh", ">case #a", ">text #z | a", ">picture #one | 1 2", ">head #q .r .s | t")

    def test_marks(self):
        self.left_out(">case .", ">case .abcdefghi", ">case .A", ">case .aB", ">case .a1", ">case ..a", ">case .a.b",
                      ">case .a . .b", ">case .a b", ">case .a .b .abcdefghi", ">text . | a", ">text .a , | a",
                      ">case .a .b .c .d .E", ">case .#a")
        self.kept(">case .abcdefgh", ">case .a .b .c .d", ">text .m | a", ">picture .m .n | 1 2", ">case #a .a")

    def test_tones(self):
        self.left_out(">text | ****a", ">text | ****{a}", ">text | *", ">text | ***", ">text | a*", ">text | a ** b",
                      ">text | *a*", ">text | {*a}", ">text | {a}*", ">text | a *****b")
        self.kept(">text | ***a", ">text | ***{a}", ">text | a *a **a ***a {b} *{b} **{b} ***{b}")

    def test_pages_and_note_pieces(self):
        self.left_out(">text | {A}", ">text | {abcdefghi}", ">text | {a", ">text | a}", ">text | {", ">text | }",
                      ">text | {a}b", ">text | b{a}", ">text | {{a}}", ">text | {a1}", ">text | a *{}", ">text | a **{}",
                      ">text | a {}{}", ">text | {a}{b}", ">text | a {}.", ">text | }a{", ">text | {a?}", ">text | a .{}")
        self.kept(">text | {abcdefgh}", ">text | {a} b")

    def test_pictures(self):
        for number in ("0", "2001", "01", "0001", "00", "-1", "+1", "1.0", "a", "1a", "", "*1", "20000", "10000", "{1}",
                       "1_0", "9" * 100, "1,", "02000", "\t1", "1\n"):
            self.left_out(f">picture | {number} 5", f">picture | 5 {number}")
        self.left_out(">picture | 5", ">picture | 5 5 5", ">picture | a", ">picture | ", ">picture |", ">picture",
                      ">picture | {a} {b}", ">picture | 5 | 5", ">picture | " + "9" * 1980 + " 1", ">picture 5 5")
        self.kept(">picture | 1 2000", ">picture | 2000 1", ">picture | 10 1999")

    def test_stuff_where_the_kind_has_none(self):
        for kind in ("body", "case", "shelf", "grid", "aside"):
            self.left_out(*[f">{kind} | {stuff}" for stuff in ("a", "1 2", "{}", "", "|")])
            self.left_out(f">{kind} |", f">{kind} #a .b | c")

    def test_no_stuff_where_the_kind_has_some(self):
        for kind in ("text", "head", "note", "picture"):
            self.left_out(f">{kind}", f">{kind} |", f">{kind} | ", f">{kind} #a", f">{kind} #a .b |", f">{kind} .b")

    def test_stuff_of_another_kind_is_words(self):
        self.kept(">text | 30 20", ">head | 0 05", ">text | text")
        self.left_out(">picture | one two")

    def test_many_rows_without_form(self):
        rows = [">text", "", "text |", ">>>", "case |"]
        book, mends = self.read(rows)
        self.assertEqual(book, body(node(0, "text", stuff=BARE)))
        self.assertEqual(mends, [(row, "form") for row in range(5)] + [(-1, "body"), (-1, "bare")])

    def test_a_row_without_form_parts_nothing(self):
        rows = ["body", ">shelf", ">", ">>text | a {}", "note | ", ">>>note | b"]
        self.reads(rows, ["body", ">shelf", ">>text | a {}", ">>>note | b"], [(2, "form"), (4, "form")])

    def test_form_goes_ahead_of_many(self):
        rows = ["body"] + [">case"] * 59
        self.reads(rows + [">cases", ">case"], rows, [(60, "form"), (61, "many")])


class Many(Reading):
    def test_the_61st_node(self):
        rows = ["body"] + [f">text | w{k}" for k in range(62)]
        self.reads(rows, rows[:60], [(60, "many"), (61, "many"), (62, "many")])

    def test_sixty_are_not_too_many(self):
        rows = ["body"] + [">case"] * 59
        self.reads(rows, rows, [])

    def test_a_body_put_ahead_counts(self):
        rows = [">case"] * 60
        self.reads(rows, ["body"] + rows[:59], [(0, "body"), (59, "many")])

    def test_rows_left_out_do_not_count(self):
        rows = ["body", "", ">note | a"] + [">case"] * 59
        self.reads(rows, ["body"] + [">case"] * 59, [(1, "form"), (2, "place")])

    def test_nothing_else_is_mended_in_such_a_row(self):
        rows = ["body #a"] + [">case"] * 59
        more = ["body", ">>>>>>>text #a .c .b | {}", ">note | a"]
        self.reads(rows + more, rows, [(60, "many"), (61, "many"), (62, "many")])

    def test_notes_beyond_are_missed_at_the_end(self):
        rows = ["body"] + [">case"] * 58 + [">text | a {}", ">>note | b"]
        self.reads(rows, rows[:59] + [">text | a"], [(60, "many"), (-1, "notes")])

    def test_nodes_left_out_at_the_end_make_no_room(self):
        words = " ".join(["a"] * 60)
        rows = ["body", f">text | {words}"] + [">>note | b"] * 58 + [">case"]
        self.reads(rows, ["body", f">text | {words}"], [(60, "many"), (-1, "notes")])


class Bodies(Reading):
    def test_the_first_one_on_another_level(self):
        for level in (1, 2, 6, 7, 500):
            self.reads([">" * level + "body #a .b", ">case"], ["body #a .b", ">case"], [(0, "level")])

    def test_the_first_one_behind_rows_without_form(self):
        self.reads(["", "x", ">body", ">case"], ["body", ">case"], [(0, "form"), (1, "form"), (2, "level")])

    def test_the_first_one_is_mended_as_any_other(self):
        self.reads([">body .b .a", ">case"], ["body .a .b", ">case"], [(0, "level"), (0, "marks")])

    def test_another_kind_ahead(self):
        for row in (">case", ">text | a", ">head | a", ">picture | 1 2"):
            self.reads([row], ["body", row], [(0, "body")])
        self.reads([">shelf #b .c", ">>case"], ["body", ">shelf #b .c", ">>case"], [(0, "body")])

    def test_another_kind_ahead_goes_on_as_a_later_one(self):
        self.reads(["text .b .a | a"], ["body", ">text .a .b | a"], [(0, "body"), (0, "level"), (0, "marks")])
        self.reads(["", ">>>case"], ["body", ">case"], [(0, "form"), (1, "body"), (1, "level")])
        self.reads([">text | {}"], ["body", ">text | ?"], [(0, "body"), (0, "pieces"), (0, "bare")])

    def test_a_note_ahead(self):
        mends = [(0, "body"), (0, "place")]
        self.reads([">note | a", ">case"], ["body", ">case"], mends)
        self.reads(["note | a"], ["body", ">text | ?"], mends + [(-1, "bare")])

    def test_the_second_row_in_form_puts_no_body(self):
        self.reads(["note | a", "note | a", ">case"], ["body", ">case"], [(0, "body"), (0, "place"), (1, "place")])

    def test_a_later_one(self):
        self.reads(["body", ">body #a .b"], ["body", ">case #a .b"], [(1, "body")])
        self.reads(["body", "body"], ["body", ">case"], [(1, "body"), (1, "level")])
        self.reads(["body", ">shelf", ">>body", ">>>body"], ["body", ">shelf", ">>case", ">>>case"],
                   [(2, "body"), (3, "body")])

    def test_a_later_one_behind_a_body_put_ahead(self):
        self.reads([">case", "body #a"], ["body", ">case", ">case #a"], [(0, "body"), (1, "body"), (1, "level")])

    def test_a_later_one_with_other_mends(self):
        self.reads(["body #a", "body #a .c .b"], ["body #a", ">case .b .c"],
                   [(1, "body"), (1, "level"), (1, "name"), (1, "marks")])


class Levels(Reading):
    def test_level_0(self):
        self.reads(["body", "case", "case"], ["body", ">case", ">case"], [(1, "level"), (2, "level")])

    def test_levels_that_leap(self):
        self.reads(["body", ">>case"], ["body", ">case"], [(1, "level")])
        self.reads(["body", ">case", ">>>>case", ">>>case"], ["body", ">case", ">>case", ">>>case"], [(2, "level")])
        self.reads(["body", ">>>>>>case", ">>>>>>case"], ["body", ">case", ">>case"], [(1, "level"), (2, "level")])

    def test_more_than_six(self):
        rows = ["body"] + [">" * level + "case" for level in range(1, 6)]
        for level in (7, 8, 100, 1990):
            self.reads(rows + [">" * level + "case"], rows + [">>>>>>case"], [(6, "level")])
        self.reads(rows + [">>>>>>case", ">>>>>>>case"], rows + [">>>>>>case", ">>>>>>case"], [(7, "level")])
        self.reads(["body", ">" * 9 + "text | a"], ["body", ">text | a"], [(1, "level")])

    def test_six_stays(self):
        rows = ["body"] + [">" * level + "case" for level in range(1, 7)] + [">>>>>>case"]
        self.reads(rows, rows, [])

    def test_back_to_a_higher_one(self):
        rows = ["body", ">case", ">>case", ">>>case", ">case", ">>>case"]
        self.reads(rows, rows[:5] + [">>case"], [(5, "level")])
        rows = ["body", ">case", ">>case", ">>>case", ">>case", ">>>case", ">case"]
        self.reads(rows, rows, [])

    def test_what_stands_behind_a_lower_level_holds_nothing_more(self):
        rows = ["body", ">case", ">>shelf", ">>>text | a", ">picture | 1 2", ">>>text | b"]
        self.reads(rows, rows[:5] + [">text | b"], [(5, "level")])

    def test_who_may_not_hold(self):
        for elder in ("shelf", "grid"):
            rows = ["body", f">{elder}", ">>case", ">>head | a"]
            self.reads(rows, rows[:3] + [">head | a"], [(3, "level")])
        for elder in ("text | a", "head | a", "picture | 1 2"):
            for kind in ("case", "text | b", "head | b", "picture | 1 2"):
                self.reads(["body", f">{elder}", f">>{kind}"], ["body", f">{elder}", f">{kind}"], [(2, "level")])

    def test_an_aside(self):
        rows = ["body", ">aside", ">>case", ">>aside", ">>text | a", ">text | b"]
        self.reads(rows, ["body", ">case", ">>case", ">aside", ">>text | a", ">text | b"], [(3, "level"), (-1, "case")])
        for elder in ("shelf", "grid"):
            rows = ["body", f">{elder}", ">>case", ">>aside", ">>case", ">text | b"]
            self.reads(rows, ["body", f">{elder}", ">>case", ">aside", ">>case", ">text | b"], [(3, "level")])

    def test_a_note_stands_in_the_last_text(self):
        rows = ["body", ">case", ">>text | a {}", ">>>>>note | b"]
        self.reads(rows, rows[:3] + [">>>note | b"], [(3, "level")])
        rows = ["body", ">text | a {} {}", ">>note | b", ">>>note | c"]
        self.reads(rows, rows[:3] + [">>note | c"], [(3, "level")])

    def test_levels_are_never_made_more(self):
        rows = ["body", ">case", ">>text | a", ">note | b"]
        self.reads(rows, rows[:3], [(3, "place")])

    def test_a_text_of_any_pieces_may_hold_a_note(self):
        self.reads(["body", ">text | a", ">>note | b"], ["body", ">text | a {}", ">>note | b"], [(-1, "notes")])


class Places(Reading):
    def test_a_note_without_a_text_or_head(self):
        self.reads(["body", ">note | a", ">case"], ["body", ">case"], [(1, "place")])
        for elder in ("case", "picture | 1 2"):
            self.reads(["body", f">{elder}", ">>note | a"], ["body", f">{elder}"], [(2, "place")])
        self.reads(["body", ">text | a", ">case", ">>note | b"], ["body", ">text | a", ">case"], [(3, "place")])

    def test_without_level(self):
        for level in (0, 1, 5, 6, 7, 30):
            self.reads(["body", ">case", ">" * level + "note | a"], ["body", ">case"], [(2, "place")])

    def test_nothing_else_is_mended_in_such_a_row(self):
        self.reads(["body #a", ">note #a .c .b | {}", ">case"], ["body #a", ">case"], [(1, "place")])

    def test_what_is_left_out_is_not_the_last_one(self):
        rows = ["body", ">case", ">>shelf", "note | a", ">>>text | b"]
        self.reads(rows, ["body", ">case", ">>shelf", ">>>text | b"], [(3, "place")])

    def test_what_is_left_out_has_no_name(self):
        self.reads(["body", "note #a | b", ">case #a"], ["body", ">case #a"], [(1, "place")])


class Names(Reading):
    def test_told_twice(self):
        self.reads(["body", ">case #a", ">case #a", ">case #a"], ["body", ">case #a", ">case", ">case"],
                   [(2, "name"), (3, "name")])
        self.reads(["body #a", ">text #a .b | c"], ["body #a", ">text .b | c"], [(1, "name")])

    def test_in_any_node(self):
        self.reads(["body", ">text | a {}", ">>note #b | c", ">picture #b | 1 2"],
                   ["body", ">text | a {}", ">>note #b | c", ">picture | 1 2"], [(3, "name")])
        self.reads(["body", ">text #b | a {}", ">>note #b | c"], ["body", ">text #b | a {}", ">>note | c"],
                   [(2, "name")])

    def test_unlike_names(self):
        rows = ["body #a", ">case #aa", ">case #b", ">text #ab | {a}", ">case .a .b"]
        self.reads(rows, rows, [])

    def test_nodes_without_names_are_not_alike(self):
        self.reads(["body", ">case", ">case"], ["body", ">case", ">case"], [])

    def test_a_row_left_out_as_too_many_or_without_form_has_no_name(self):
        self.reads(["body", ">case #a |", ">case #a"], ["body", ">case #a"], [(1, "form")])

    def test_a_name_of_a_note_that_is_left_out_later(self):
        words = " ".join(["w"] * 60)
        self.reads(["body", f">text | {words}", ">>note #a | b", ">case #a"], ["body", f">text | {words}", ">case"],
                   [(3, "name"), (-1, "notes")])


class Marks(Reading):
    def marks(self, written, right):
        mends = [] if written == right else [(1, "marks")]
        self.reads(["body", f">case {written}"], ["body", f">case {right}"], mends)
        self.reads(["body", f">text #a {written} | b"], ["body", f">text #a {right} | b"], mends)

    def test_in_another_order(self):
        self.marks(".b .a", ".a .b")
        self.marks(".d .c .b .a", ".a .b .c .d")
        self.marks(".a .c .b", ".a .b .c")
        self.marks(".b .ab .a", ".a .ab .b")

    def test_twice(self):
        self.marks(".a .a", ".a")
        self.marks(".a .b .b", ".a .b")
        self.marks(".b .a .b", ".a .b")
        self.marks(".a .a .a .a .a .a", ".a")

    def test_more_than_four(self):
        self.marks(".a .b .c .d .e", ".a .b .c .d")
        self.marks(".e .d .c .b .a", ".a .b .c .d")
        self.marks(".a .a .b .c .d", ".a .b .c .d")
        self.marks(".z .a .z .y .b .c", ".a .b .c .y")

    def test_as_they_must_be(self):
        self.marks(".a", ".a")
        self.marks(".a .b .c .d", ".a .b .c .d")

    def test_of_the_body(self):
        self.reads(["body .b .a .b", ">case"], ["body .a .b", ">case"], [(0, "marks")])


class Pieces(Reading):
    def pieces(self, kind, written, right, *words):
        self.reads(["body", f">{kind} | {written}"], ["body", f">{kind} | {right}"], [(1, word) for word in words])

    def noted(self, written, right, *words):
        rows = ["body", ">text | a {}"]
        self.reads(rows + [f">>note | {written}"], rows + [f">>note | {right}"], [(2, word) for word in words])

    def test_note_pieces_at_the_beginning(self):
        for kind in ("text", "head"):
            self.pieces(kind, "{} a", "a", "pieces")
            self.pieces(kind, "{} {} {} *{b} c", "*{b} c", "pieces")
            self.reads(["body", f">{kind} | {{}} a {{}} b", ">>note | c"],
                       ["body", f">{kind} | a {{}} b", ">>note | c"], [(1, "pieces")])

    def test_all_note_pieces_of_a_note(self):
        self.noted("{} b", "b", "pieces")
        self.noted("b {}", "b", "pieces")
        self.noted("{} b {} {} c {}", "b c", "pieces")

    def test_none_left(self):
        for kind in ("text", "head"):
            self.pieces(kind, "{}", "?", "pieces", "bare")
            self.pieces(kind, "{} {} {}", "?", "pieces", "bare")
            self.pieces(kind, " ".join(["{}"] * 70), "?", "pieces", "bare")
        self.noted("{}", "?", "pieces", "bare")
        self.noted("{} {}", "?", "pieces", "bare")

    def test_the_bare_word_is_told_as_a_word(self):
        book, mends = self.read(["body", ">text | {}"])
        self.assertEqual(book[1], (0, "text", "", [], [("word", "?", 0)]))

    def test_none_left_but_a_note_is_there(self):
        self.reads(["body", ">text | {}", ">>note | a"], ["body", ">text | ? {}", ">>note | a"],
                   [(1, "pieces"), (1, "bare"), (-1, "notes")])

    def test_more_than_sixty(self):
        words = [f"w{k}" for k in range(70)]
        for kind in ("text", "head"):
            self.pieces(kind, " ".join(words[:60]), " ".join(words[:60]))
            self.pieces(kind, " ".join(words[:61]), " ".join(words[:60]), "pieces")
            self.pieces(kind, " ".join(words), " ".join(words[:60]), "pieces")
            self.pieces(kind, " ".join(["{}"] + words[:60]), " ".join(words[:60]), "pieces")
            self.pieces(kind, " ".join(["{}"] + words[:61]), " ".join(words[:60]), "pieces")
        self.noted(" ".join(words), " ".join(words[:60]), "pieces")
        self.noted(" ".join(["{}"] + words[:30] + ["{}"] + words[30:60]), " ".join(words[:60]), "pieces")

    def test_notes_first_then_the_sixtieth(self):
        words = " ".join(["w"] * 58)
        self.reads(["body", f">text | {{}} {words} {{}} {{}} x", ">>note | a", ">>note | b"],
                   ["body", f">text | {words} {{}} {{}}", ">>note | a", ">>note | b"], [(1, "pieces")])

    def test_two_thousand_signs(self):
        row = ">text | " + " ".join(["a"] * 996)
        self.assertEqual(len(row), 1999)
        self.reads(["body", row], ["body", ">text | " + " ".join(["a"] * 60)], [(1, "pieces")])


class AtOneRow(Reading):
    def test_all_of_them_in_order(self):
        self.reads(["body #a", ">>text #a .c .b | {}"], ["body #a", ">text .b .c | ?"],
                   [(1, "level"), (1, "name"), (1, "marks"), (1, "pieces"), (1, "bare")])

    def test_two_of_them(self):
        for row, right, words in (
            (">>text #a | b", ">text | b", ["level", "name"]),
            ("text .b .a | b", ">text .a .b | b", ["level", "marks"]),
            (">>>text | {} b", ">text | b", ["level", "pieces"]),
            (">text #a .b .b | c", ">text .b | c", ["name", "marks"]),
            (">head #a | {} c", ">head | c", ["name", "pieces"]),
            (">head .b .a | {} c", ">head .a .b | c", ["marks", "pieces"]),
            (">body #a", ">case", ["body", "name"]),
            (">body .c .b", ">case .b .c", ["body", "marks"]),
            (">>body", ">case", ["body", "level"]),
        ):
            with self.subTest(row):
                self.reads(["body #a", row], ["body #a", right], [(1, word) for word in words])

    def test_row_by_row(self):
        rows = ["x", ">case .b .a", "case #a", ">text #a | {}", "note | a", ">>note | b"]
        self.reads(rows, ["body", ">case .a .b", ">case #a", ">text | ? {}", ">>note | b"], [
            (0, "form"), (1, "body"), (1, "marks"), (2, "level"), (3, "name"), (3, "pieces"), (3, "bare"),
            (4, "place"), (-1, "notes"),
        ])


class AtTheEnd(Reading):
    def test_no_rows_at_all(self):
        bare = body(node(0, "text", stuff=BARE))
        self.assertEqual(self.read([]), (bare, [(-1, "body"), (-1, "bare")]))
        self.assertEqual(self.read([""]), (bare, [(0, "form"), (-1, "body"), (-1, "bare")]))

    def test_a_body_without_blocks(self):
        self.reads(["body"], ["body", ">text | ?"], [(-1, "bare")])
        self.reads(["body #a .b", "x"], ["body #a .b", ">text | ?"], [(1, "form"), (-1, "bare")])
        self.reads([">body", ">note | a"], ["body", ">text | ?"], [(0, "level"), (1, "place"), (-1, "bare")])

    def test_a_body_with_an_aside_that_is_a_case_is_not_bare(self):
        self.reads(["body", ">aside"], ["body", ">case"], [(-1, "case")])

    def test_more_note_pieces_than_notes(self):
        for kind in ("text", "head"):
            self.reads(["body", f">{kind} | a {{}}"], ["body", f">{kind} | a"], [(-1, "notes")])
            self.reads(["body", f">{kind} | a {{}} b {{}} {{}} c", ">>note | d"],
                       ["body", f">{kind} | a {{}} b c", ">>note | d"], [(-1, "notes")])

    def test_fewer_note_pieces_than_notes(self):
        for kind in ("text", "head"):
            self.reads(["body", f">{kind} | a b", ">>note | c"], ["body", f">{kind} | a b {{}}", ">>note | c"],
                       [(-1, "notes")])
            rows = ["body", f">{kind} | a {{}} b", ">>note | c", ">>note | d", ">>note | e"]
            self.reads(rows, ["body", f">{kind} | a {{}} b {{}} {{}}"] + rows[2:], [(-1, "notes")])

    def test_note_pieces_are_numbered(self):
        rows = ["body", ">text | a {} b {} {}", ">>note | d", ">>note | e", ">>note | f", ">text | g {}", ">>note | h"]
        book, mends = self.read(rows)
        self.assertEqual(mends, [])
        self.assertEqual(book[1][4], [word("a"), note_piece(0), word("b"), note_piece(1), note_piece(2)])
        self.assertEqual(book[5][4], [word("g"), note_piece(0)])

    def test_sixty_pieces_and_notes_beyond(self):
        full = " ".join(["w"] * 60)
        rows = ["body", f">text | {full}", ">>note #a | b", ">>note | c", ">case #d", ">>text | e {}", ">>>note | f"]
        self.reads(rows, rows[:2] + rows[4:], [(-1, "notes")])
        near = " ".join(["w"] * 58)
        notes = [">>note #a | b", ">>note #b | c", ">>note #c | d"]
        self.reads(["body", f">head | {near}"] + notes + [">case", ">>picture #e | 1 2"],
                   ["body", f">head | {near} {{}} {{}}"] + notes[:2] + [">case", ">>picture #e | 1 2"],
                   [(-1, "notes")])

    def test_sixty_pieces_with_a_note_among_them(self):
        stuff = " ".join(["w", "{}"] + ["w"] * 58)
        rows = ["body", f">text | {stuff}", ">>note | a", ">>note | b"]
        self.reads(rows, rows[:3], [(-1, "notes")])

    def test_pieces_behind_the_sixtieth_that_were_note_pieces(self):
        full = " ".join(["w"] * 59)
        rows = ["body", f">text | {full} {{}} {{}}", ">>note | a", ">>note | b"]
        self.reads(rows, ["body", f">text | {full} {{}}", ">>note | a"], [(1, "pieces"), (-1, "notes")])

    def test_notes_once_for_each_node(self):
        self.reads(["body", ">text | a {} {}", ">head | b", ">>note | c", ">>note | d", ">text | e {}", ">>note | f"],
                   ["body", ">text | a", ">head | b {} {}", ">>note | c", ">>note | d", ">text | e {}", ">>note | f"],
                   [(-1, "notes"), (-1, "notes")])

    def test_empty_shelves_and_grids(self):
        for kind in ("shelf", "grid"):
            self.reads(["body", f">{kind} #a .b"], ["body", ">case #a .b"], [(-1, "case")])
            self.reads(["body", f">{kind}", f">>{kind}"], ["body", f">{kind}", ">>case"], [(-1, "case")])
            self.reads(["body", f">{kind}", ">head | a"], ["body", ">case", ">head | a"], [(-1, "case")])

    def test_empty_asides(self):
        self.reads(["body", ">aside #a .b", ">text | c"], ["body", ">case #a .b", ">text | c"], [(-1, "case")])
        self.reads(["body", ">aside", ">>shelf", ">text | c"], ["body", ">aside", ">>case", ">text | c"],
                   [(-1, "case")])

    def test_an_aside_without_a_text_next_to_it(self):
        held = [">>head | a {}", ">>>note | b", ">>case"]
        for behind in ([], [">head | a"], [">case", ">>text | a"], [">picture | 1 2"], [">shelf", ">>text | a"]):
            with self.subTest(behind):
                self.reads(["body", ">aside #x"] + held + behind, ["body", ">case #x"] + held + behind, [(-1, "case")])

    def test_an_aside_ahead_of_an_aside(self):
        self.reads(["body", ">aside", ">>case", ">aside", ">>case", ">text | a"],
                   ["body", ">case", ">>case", ">aside", ">>case", ">text | a"], [(-1, "case")])

    def test_a_text_in_another_elder_is_not_next_to_it(self):
        self.reads(["body", ">case", ">>aside", ">>>case", ">text | a"],
                   ["body", ">case", ">>case", ">>>case", ">text | a"], [(-1, "case")])

    def test_an_empty_aside_without_a_text_is_told_once(self):
        self.reads(["body", ">aside", ">head | a"], ["body", ">case", ">head | a"], [(-1, "case")])

    def test_case_for_each_node(self):
        self.reads(["body", ">aside", ">>grid", ">aside", ">shelf"], ["body", ">case", ">>case", ">case", ">case"],
                   [(-1, "case")] * 4)

    def test_their_order(self):
        self.reads(["body", ">grid", ">text | a {}", ">shelf", ">head | b", ">>note | c"],
                   ["body", ">case", ">text | a", ">case", ">head | b {}", ">>note | c"],
                   [(-1, "notes"), (-1, "notes"), (-1, "case"), (-1, "case")])
        self.reads(["note | a", ">aside", ">text | a {}", ">>>note .b .a | {} b {}", "x"],
                   ["body", ">case", ">text | a {}", ">>note .a .b | b"],
                   [(0, "body"), (0, "place"), (3, "level"), (3, "marks"), (3, "pieces"), (4, "form"), (-1, "case")])


class ItsOwn(Reading):
    def test_what_is_told_is_its_own(self):
        rows = ["text .b .a | {}", ">>note | a", "case", "body", ">aside", ">grid"]
        before = list(rows)
        first = read_book(rows)
        second = read_book(rows=rows)
        whole = read_book(rows)
        self.assertFalse(share_a_list(rows, first, second, whole))
        for one in lists_in(first):
            one.clear()
        self.assertEqual(rows, before)
        self.assertEqual(second, whole)
        self.assertEqual(read_book(rows), whole)

    def test_bare_texts_and_bodies_are_their_own(self):
        for rows in ([], ["body"], [">text | {}", ">text | {}"], [">case"]):
            first = read_book(rows)
            second = read_book(rows)
            self.assertFalse(share_a_list(first, second))
            for one in lists_in(first):
                one.append("x")
            self.assertEqual(read_book(rows), second)


if __name__ == "__main__":
    unittest.main()
