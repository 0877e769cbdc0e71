"""A book written as a list of rows, one for each node."""

from leafpress.books import KIND, MARKS, NAME, SORT, STUFF, THING, TONE, level_of


def book_rows(book):
    return [">" * level_of(book, number) + node_row(node) for number, node in enumerate(book)]


def node_row(node):
    words = [node[KIND]]
    if node[NAME] != "":
        words.append("#" + node[NAME])
    words.extend(["." + mark for mark in node[MARKS]])
    if len(node[STUFF]) > 0:
        words.append("|")
        words.extend(stuff_words(node[KIND], node[STUFF]))
    return " ".join(words)


def stuff_words(kind, stuff):
    if kind == "picture":
        return [str(side) for side in stuff]
    return [piece_word(piece) for piece in stuff]


def piece_word(piece):
    if piece[SORT] == "note":
        return "{}"
    stars = "*" * piece[TONE]
    if piece[SORT] == "page":
        return stars + "{" + piece[THING] + "}"
    return stars + piece[THING]
