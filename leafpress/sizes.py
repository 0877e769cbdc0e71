"""Sizes: how high each node is, how its units are broken, and where what it holds stands below its top."""

from leafpress.books import KIND, KINDS_OF_PIECES, STUFF, aside_ahead, holds, level_of
from leafpress.bounds import rounded_up
from leafpress.breaks import COUNT, NONE_NARROWER, ROWS, SUMS, broken
from leafpress.grids import ROW, cells_of, grid_highs, grid_places
from leafpress.rules import look_at
from leafpress.spans import WIDE, room_of
from leafpress.units import rows_high

# The places in a size.
SIZE_HIGH = 0
SIZE_ROWS = 1
SIZE_SUMS = 2
SIZE_COUNT = 3


def all_sizes(book, looks, units, spans):
    sizes = [(0, [], [], 0) for node in book]
    # The deepest first: a node needs what it holds, and a text the aside ahead of it, on the same level.
    for node in sorted(range(len(book)), key=lambda one: -level_of(book, one)):
        sizes[node] = node_size(book, looks, units, spans, sizes, node)
    return sizes


# Sizes are those of the nodes that it holds and of the aside ahead of it, at least.
def node_size(book, looks, units, spans, sizes, node):
    if book[node][KIND] == "picture":
        return (book[node][STUFF][1], [], [], 0)
    if book[node][KIND] not in KINDS_OF_PIECES:
        return (high_of_held(book, looks, sizes, node), [], [], 0)
    narrow = narrow_of(book, units, spans, sizes, node)
    paper = broken(units[node], room_of(looks, spans, node)[WIDE], narrow)
    return (len(paper[ROWS]) * rows_high(units[node]), paper[ROWS], paper[SUMS], narrow[COUNT])


# How many of the rows of a node with units stand beside an aside, and how much narrower these are.
def narrow_of(book, units, spans, sizes, node):
    aside = aside_ahead(book, node)
    if aside is None:
        return NONE_NARROWER
    return (rounded_up(sizes[aside][SIZE_HIGH], rows_high(units[node])), spans[aside][WIDE])


# How far down what a node holds goes. In a grid this is the end of its last row: none is higher than it must be.
def high_of_held(book, looks, sizes, node):
    return max([top + sizes[one][SIZE_HIGH] for one, top in held_tops(book, looks, sizes, node)], default=0)


# The tuples (node, how far its top is below that of its elder) of what a node holds but notes, in order.
def held_tops(book, looks, sizes, node):
    kind = book[node][KIND]
    if kind in KINDS_OF_PIECES:
        return []
    held = holds(book, node)
    if kind == "shelf":
        return [(one, 0) for one in held]
    if kind == "grid":
        return tops_in_grid(looks, sizes, look_at(looks, node, "columns"), held)
    return tops_in_pile(book, looks, sizes, held)


def tops_in_grid(looks, sizes, columns, held):
    places = grid_places(columns, cells_of(looks, held))
    highs = grid_highs(places, [sizes[one][SIZE_HIGH] for one in held])
    return [(one, sum(highs[:place[ROW]])) for one, place in zip(held, places)]


# What stands one below the other; an aside stands beside the text next to it, and has its top.
def tops_in_pile(book, looks, sizes, held):
    tops = []
    bottom = 0
    for one in [other for other in held if book[other][KIND] != "aside"]:
        above = look_at(looks, one, "above") if len(tops) > 0 else 0
        top = bottom + above
        aside = aside_ahead(book, one)
        beside = [one] if aside is None else [aside, one]
        tops.extend([(each, top) for each in beside])
        bottom = top + max([sizes[each][SIZE_HIGH] for each in beside])
    return tops
