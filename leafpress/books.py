"""Books: lists of nodes, each of which hangs in one ahead of it."""

from leafpress.errors import NoBook, NoNode
from leafpress.signs import is_name, is_whole, is_word

# The places in a node.
ELDER = 0
KIND = 1
NAME = 2
MARKS = 3
STUFF = 4

# The places in a piece.
SORT = 0
THING = 1
TONE = 2

MOST_NODES = 60
MOST_MARKS = 4
MOST_PIECES = 60
GREATEST_LEVEL = 6
GREATEST_TONE = 3
GREATEST_PICTURE = 2000

KINDS = ("body", "case", "shelf", "grid", "text", "head", "picture", "aside", "note")
KINDS_OF_PIECES = ("text", "head", "note")
KINDS_NEVER_EMPTY = ("body", "shelf", "grid", "aside")

MAY_HOLD = {
    "body": ("case", "shelf", "grid", "text", "head", "picture", "aside"),
    "case": ("case", "shelf", "grid", "text", "head", "picture", "aside"),
    "shelf": ("case", "shelf", "grid", "text", "picture"),
    "grid": ("case", "shelf", "grid", "text", "picture"),
    "text": ("note",),
    "head": ("note",),
    "picture": (),
    "aside": ("case", "shelf", "grid", "text", "head", "picture"),
    "note": (),
}


def made_book(nodes):
    if not isinstance(nodes, list) or not 1 <= len(nodes) <= MOST_NODES:
        raise NoBook("a book is a list of 1 to 60 nodes")
    # In this order: the tree is walked only when all forms are right, what hangs where only when the tree is.
    for number, node in enumerate(nodes):
        refuse_fault(number, form_fault(node))
    for number in range(len(nodes)):
        refuse_fault(number, tree_fault(nodes, number))
    for number in range(len(nodes)):
        refuse_fault(number, held_fault(nodes, number))
    if not are_unlike([node[NAME] for node in nodes if node[NAME] != ""]):
        raise NoBook("two nodes have one name")
    return [copied_node(node) for node in nodes]


def copied_node(node):
    return (node[ELDER], node[KIND], node[NAME], list(node[MARKS]), list(node[STUFF]))


def refuse_fault(number, fault):
    if fault != "":
        raise NoBook(f"node {number}: {fault}")


def are_unlike(texts):
    return len(set(texts)) == len(texts)


# The fault of a node by itself, or the text without signs.
def form_fault(node):
    if not isinstance(node, tuple) or len(node) != 5:
        return "a node is a tuple (elder, kind, name, marks, stuff)"
    if not is_whole(node[ELDER], -1, MOST_NODES):
        return "its elder is no number of a node"
    if node[KIND] not in KINDS:
        return "there is no such kind"
    if node[NAME] != "" and not is_name(node[NAME]):
        return "a name is one to eight small letters"
    if not are_marks(node[MARKS]):
        return "marks are a sorted list of at most four unlike names"
    if not is_stuff(node[KIND], node[STUFF]):
        return "its stuff is not that of its kind"
    return ""


def are_marks(marks):
    if not isinstance(marks, list) or len(marks) > MOST_MARKS:
        return False
    return all([is_name(mark) for mark in marks]) and marks == sorted(set(marks))


def is_stuff(kind, stuff):
    if not isinstance(stuff, list):
        return False
    if kind == "picture":
        return len(stuff) == 2 and all([is_whole(side, 1, GREATEST_PICTURE) for side in stuff])
    if kind in KINDS_OF_PIECES:
        return are_pieces(stuff)
    return len(stuff) == 0


def are_pieces(stuff):
    if not 1 <= len(stuff) <= MOST_PIECES or not all([is_piece(piece) for piece in stuff]):
        return False
    return stuff[0][SORT] != "note"


def is_piece(piece):
    if not isinstance(piece, tuple) or len(piece) != 3:
        return False
    if piece[SORT] == "note":
        return is_whole(piece[THING], 0, MOST_PIECES) and is_whole(piece[TONE], 0, 0)
    if not is_whole(piece[TONE], 0, GREATEST_TONE):
        return False
    if piece[SORT] == "word":
        return is_word(piece[THING])
    return piece[SORT] == "page" and is_name(piece[THING])


# The fault of where a node hangs, when those ahead of it hang right.
def tree_fault(nodes, number):
    if (nodes[number][KIND] == "body") != (number == 0):
        return "node 0 is a body, and no other one"
    if not hangs_right(nodes, number):
        return "its elder is not the node just ahead, nor one in which that hangs"
    if level_of(nodes, number) > GREATEST_LEVEL:
        return "its level is more than 6"
    return ""


def hangs_right(nodes, number):
    elder = nodes[number][ELDER]
    if number == 0:
        return elder == -1
    return elder == number - 1 or elder in elders_of(nodes, number - 1)


def level_of(book, node):
    return len(elders_of(book, node))


# The nodes above a node, the nearest one first.
def elders_of(book, node):
    elders = []
    above = book[node][ELDER]
    while above != -1:
        elders.append(above)
        above = book[above][ELDER]
    return elders


# The fault of what a node holds.
def held_fault(nodes, number):
    kind = nodes[number][KIND]
    held = [nodes[one][KIND] for one in holds(nodes, number)]
    if not all([may_hold(kind, one) for one in held]):
        return f"a {kind} does not hold this"
    if kind in KINDS_NEVER_EMPTY and len(held) == 0:
        return f"a {kind} holds one at least"
    for place, one in enumerate(held):
        if one == "aside" and held[place + 1:place + 2] != ["text"]:
            return "it holds an aside without a text next to it"
    # What holds no notes may have no note pieces either, so this holds of a note too.
    if kind in KINDS_OF_PIECES and note_numbers(nodes[number][STUFF]) != list(range(len(held))):
        return "its note pieces are not those of its notes in order"
    return ""


def may_hold(elder_kind, kind):
    return kind in MAY_HOLD[elder_kind]


def note_numbers(stuff):
    return [piece[THING] for piece in stuff if piece[SORT] == "note"]


def holds(book, node):
    if not 0 <= node < len(book):
        raise NoNode(f"there is no node {node}")
    return [number for number, other in enumerate(book) if other[ELDER] == node]


# The aside that a text stands next to, None where there is none, and for other kinds.
def aside_ahead(book, node):
    if book[node][KIND] != "text":
        return None
    held = holds(book, book[node][ELDER])
    place = held.index(node)
    if place == 0 or book[held[place - 1]][KIND] != "aside":
        return None
    return held[place - 1]
