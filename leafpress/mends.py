"""What is mended where rows are read to a book, each mend by itself."""

from leafpress.books import ELDER, KIND, MARKS, NAME, SORT, STUFF
from leafpress.books import GREATEST_LEVEL, MOST_MARKS, MOST_PIECES
from leafpress.books import elders_of, holds, may_hold, note_numbers


def bare_body():
    return (-1, "body", "", [], [])


# What stands where no piece is left.
def bare_stuff():
    return [("word", "?", 0)]


# The level on which a new node of a kind stands, or 0 where there is none.
def mended_level(nodes, level, kind):
    above = open_nodes(nodes)
    for tried in range(min(max(level, 1), GREATEST_LEVEL), 0, -1):
        if tried <= len(above) and may_hold(nodes[above[tried - 1]][KIND], kind):
            return tried
    return 0


# The nodes in which a new one may hang, by their levels: any other one has something of a lower level behind it.
def open_nodes(nodes):
    last = len(nodes) - 1
    return list(reversed([last] + elders_of(nodes, last)))


def mended_name(nodes, name):
    return "" if name in [node[NAME] for node in nodes] else name


def mended_marks(marks):
    return sorted(set(marks))[:MOST_MARKS]


def mended_pieces(kind, stuff):
    if kind == "note":
        kept = [piece for piece in stuff if piece[SORT] != "note"]
    else:
        kept = stuff[notes_at_beginning(stuff):]
    return kept[:MOST_PIECES]


def notes_at_beginning(stuff):
    count = 0
    while count < len(stuff) and stuff[count][SORT] == "note":
        count += 1
    return count


# Whether a text or head has not a note piece for each note, and no more.
def lacks_notes(nodes, number):
    if not may_hold(nodes[number][KIND], "note"):
        return False
    return len(note_numbers(nodes[number][STUFF])) != len(holds(nodes, number))


# The nodes with note pieces and notes that belong together.
def mended_notes(nodes):
    mended = []
    spare = []
    for number, node in enumerate(nodes):
        stuff = node[STUFF]
        if may_hold(node[KIND], "note"):
            held = holds(nodes, number)
            stuff = numbered_pieces(stuff, len(held))
            spare.extend(held[len(note_numbers(stuff)):])
        mended.append((node[ELDER], node[KIND], node[NAME], node[MARKS], stuff))
    return without_nodes(mended, spare)


def numbered_pieces(stuff, notes):
    pieces = []
    count = 0
    for piece in stuff:
        if piece[SORT] != "note":
            pieces.append(piece)
        elif count < notes:
            pieces.append(("note", count, 0))
            count += 1
    while count < notes and len(pieces) < MOST_PIECES:
        pieces.append(("note", count, 0))
        count += 1
    return pieces


# Nodes that hold nothing are left out, so each elder is still there, under its new number.
def without_nodes(nodes, spare):
    kept = []
    new_numbers = {-1: -1}
    for number, node in enumerate(nodes):
        if number not in spare:
            new_numbers[number] = len(kept)
            kept.append((new_numbers[node[ELDER]], node[KIND], node[NAME], node[MARKS], node[STUFF]))
    return kept


# Whether a node can't stay an aside, a shelf or a grid.
def wants_case(nodes, number):
    kind = nodes[number][KIND]
    if kind == "aside" and next_kind(nodes, number) != "text":
        return True
    return kind in ("aside", "shelf", "grid") and len(holds(nodes, number)) == 0


# The kind of the next one in the same elder, or the text without signs.
def next_kind(nodes, number):
    behind = [one for one in holds(nodes, nodes[number][ELDER]) if one > number]
    return nodes[behind[0]][KIND] if len(behind) > 0 else ""


def mended_kinds(nodes):
    mended = []
    for number, node in enumerate(nodes):
        kind = "case" if wants_case(nodes, number) else node[KIND]
        mended.append((node[ELDER], kind, node[NAME], node[MARKS], node[STUFF]))
    return mended
