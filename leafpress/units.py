"""Units: how wide and high the words of texts, heads and notes are."""

from leafpress.books import KIND, KINDS_OF_PIECES, SORT, STUFF, THING, TONE, holds
from leafpress.faces import BLANK, HIGH, face_at, word_width
from leafpress.rules import look_at
from leafpress.signs import FIGURES

# The places in a unit.
UNIT_WIDE = 0
UNIT_BLANK = 1
UNIT_HIGH = 2
UNIT_PIECE = 3
UNIT_NOTES = 4

UNSHOWN = "?"
FIGURES_HELD = 4


def all_units(book, looks, faces, shown, held=False):
    return [node_units(book, look_at(looks, node, "face"), faces, shown, held, node) for node in range(len(book))]


# Number is that of the look's face.
def node_units(book, number, faces, shown, held, node):
    if book[node][KIND] not in KINDS_OF_PIECES:
        return []
    notes = holds(book, node)
    units = []
    for place, piece in enumerate(book[node][STUFF]):
        if piece[SORT] == "note":
            units[-1][UNIT_NOTES].append(notes[piece[THING]])
        else:
            face = face_at(faces, number + piece[TONE])
            units.append((piece_width(piece, face, shown, held), face[BLANK], face[HIGH], place, []))
    return units


def piece_width(piece, face, shown, held):
    wide = word_width(face, printed(piece, shown))
    if held and piece[SORT] == "page":
        return max(wide, FIGURES_HELD * max([word_width(face, figure) for figure in FIGURES]))
    return wide


# The word that a piece other than a note prints.
def printed(piece, shown):
    if piece[SORT] == "page":
        return dict(shown).get(piece[THING], UNSHOWN)
    return piece[THING]


def rows_high(units):
    return max([unit[UNIT_HIGH] for unit in units])


# How long the units of one row are: blanks stand between them alone.
def row_length(units):
    return sum([unit[UNIT_WIDE] for unit in units]) + sum([unit[UNIT_BLANK] for unit in units[:-1]])
