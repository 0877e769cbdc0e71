"""Spans: where each node begins from the left, and how wide it is; and their looker-over."""

from leafpress.books import KIND, KINDS_OF_PIECES, holds
from leafpress.bounds import floor_of, roof_of
from leafpress.grids import COLUMN, SPAN, cells_of, grid_places
from leafpress.rules import look_at
from leafpress.shares import shares, shares_hold

# The places in a span.
LEFT = 0
WIDE = 1


def all_spans(book, looks, bounds, wide):
    spans = [(0, wide) for node in book]
    # A node's own span is there by then: its elder stands ahead of it.
    for node in range(len(book)):
        within = held_spans(book, looks, bounds, spans, node)
        for place, one in enumerate(holds(book, node)):
            spans[one] = within[place]
    return spans


def spans_hold(book, looks, bounds, wide, told):
    if len(told) != len(book) or told[0] != (0, wide):
        return False
    return all([held_spans_hold(book, looks, bounds, told, node) for node in range(len(book))])


# Whether what a node holds has the spans that its own one asks for.
def held_spans_hold(book, looks, bounds, told, node):
    held = holds(book, node)
    within = [told[one] for one in held]
    if book[node][KIND] != "shelf":
        return within == held_spans(book, looks, bounds, told, node)
    room = room_of(looks, told, node)
    wides = [span[WIDE] for span in within]
    if not shares_hold(room[WIDE], floors_of(looks, bounds, held), roofs_of(looks, bounds, held),
                       weights_of(looks, held), wides):
        return False
    return within == one_behind_the_other(room[LEFT], wides)


# The spans of what a node holds, in order, by the span of the node (of notes by that of node 0).
def held_spans(book, looks, bounds, spans, node):
    kind = book[node][KIND]
    held = holds(book, node)
    if kind in KINDS_OF_PIECES:
        return [room_of(looks, spans, 0) for one in held]
    room = room_of(looks, spans, node)
    if kind == "shelf":
        wides = shares(room[WIDE], floors_of(looks, bounds, held), roofs_of(looks, bounds, held),
                       weights_of(looks, held))
        return one_behind_the_other(room[LEFT], wides)
    if kind == "grid":
        return cell_spans(room, look_at(looks, node, "columns"), cells_of(looks, held))
    return [aside_span(looks, room, one) if book[one][KIND] == "aside" else room for one in held]


# The span within the insets of a node.
def room_of(looks, spans, node):
    inset = look_at(looks, node, "inset")
    return (spans[node][LEFT] + inset, max(spans[node][WIDE] - 2 * inset, 0))


def floors_of(looks, bounds, held):
    return [floor_of(looks, bounds, one) for one in held]


def roofs_of(looks, bounds, held):
    return [roof_of(looks, bounds, one) for one in held]


def weights_of(looks, held):
    return [look_at(looks, one, "weight") for one in held]


def one_behind_the_other(left, wides):
    return [(left + sum(wides[:place]), wide) for place, wide in enumerate(wides)]


def cell_spans(room, columns, cells):
    wides = even_columns(room[WIDE], columns)
    spans = []
    for place in grid_places(columns, cells):
        left = room[LEFT] + sum(wides[:place[COLUMN]])
        spans.append((left, sum(wides[place[COLUMN]:place[COLUMN] + place[SPAN]])))
    return spans


def even_columns(wide, columns):
    each = wide // columns
    rest = wide - each * columns
    return [each + 1 if column < rest else each for column in range(columns)]


def aside_span(looks, room, aside):
    wide = min(look_at(looks, aside, "wide"), room[WIDE] // 2)
    if look_at(looks, aside, "side") == 0:
        return (room[LEFT], wide)
    return (room[LEFT] + room[WIDE] - wide, wide)
