"""Any list of rows read to a book, with a list of what was mended."""

from leafpress.books import KIND, KINDS_OF_PIECES, MARKS, MOST_NODES, NAME, STUFF, holds
from leafpress.mends import bare_body, bare_stuff, lacks_notes, wants_case
from leafpress.mends import mended_kinds, mended_level, mended_marks, mended_name, mended_notes, mended_pieces
from leafpress.mends import open_nodes
from leafpress.rowforms import LEVEL, row_parts

# The row that is told of mends made when all rows are read.
BEHIND_ALL_ROWS = -1


def read_book(rows):
    nodes = []
    mends = []
    for number, row in enumerate(rows):
        told = read_row(nodes, row)
        nodes.extend(told[0])
        mends.extend([(number, word) for word in told[1]])
    whole = finished_book(nodes)
    mends.extend([(BEHIND_ALL_ROWS, word) for word in whole[1]])
    return (whole[0], mends)


# A tuple: the nodes that the row makes, and the words of its mends in order; so are those that this one asks.
def read_row(nodes, row):
    parts = row_parts(row)
    if parts is None:
        return ([], ["form"])
    if len(nodes) >= MOST_NODES:
        return ([], ["many"])
    if len(nodes) == 0:
        return first_nodes(parts)
    if parts[KIND] == "body":
        told = later_nodes(nodes, (parts[LEVEL], "case", parts[NAME], parts[MARKS], parts[STUFF]))
        return (told[0], ["body"] + told[1])
    return later_nodes(nodes, parts)


def first_nodes(parts):
    if parts[KIND] != "body":
        told = later_nodes([bare_body()], parts)
        return ([bare_body()] + told[0], ["body"] + told[1])
    told = made_node([], -1, parts)
    return (told[0], level_words(parts, 0) + told[1])


def later_nodes(nodes, parts):
    level = mended_level(nodes, parts[LEVEL], parts[KIND])
    if level == 0:
        return ([], ["place"])
    told = made_node(nodes, open_nodes(nodes)[level - 1], parts)
    return (told[0], level_words(parts, level) + told[1])


def level_words(parts, level):
    return ["level"] if level != parts[LEVEL] else []


# The node of what a row tells, its name, marks and stuff mended; told as by read_row.
def made_node(nodes, elder, parts):
    words = []
    name = mended_name(nodes, parts[NAME])
    if name != parts[NAME]:
        words.append("name")
    marks = mended_marks(parts[MARKS])
    if marks != parts[MARKS]:
        words.append("marks")
    stuff = parts[STUFF]
    if parts[KIND] in KINDS_OF_PIECES:
        stuff = mended_pieces(parts[KIND], parts[STUFF])
        if stuff != parts[STUFF]:
            words.append("pieces")
        if len(stuff) == 0:
            stuff = bare_stuff()
            words.append("bare")
    return ([(elder, parts[KIND], name, marks, stuff)], words)


# A tuple: the book of the nodes read, and the words of the mends that make it one.
def finished_book(nodes):
    words = []
    begun = nodes
    if len(nodes) == 0:
        begun = [bare_body()]
        words.append("body")
    words.extend(["notes" for number in range(len(begun)) if lacks_notes(begun, number)])
    noted = mended_notes(begun)
    words.extend(["case" for number in range(len(noted)) if wants_case(noted, number)])
    book = mended_kinds(noted)
    # An aside that stays has a text next to it, so a body without blocks holds nothing.
    if len(holds(book, 0)) == 0:
        book.append((0, "text", "", [], bare_stuff()))
        words.append("bare")
    return (book, words)
