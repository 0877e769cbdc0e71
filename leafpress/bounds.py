"""Bounds: how narrow each node may be, and how wide it would be."""

from leafpress.books import KIND, KINDS_OF_PIECES, STUFF, holds
from leafpress.rules import look_at
from leafpress.units import UNIT_WIDE, row_length

# The places in bounds.
LOW = 0
GREAT = 1


def all_bounds(book, looks, units):
    bounds = [(0, 0) for node in book]
    # From the end on: what a node holds stands behind it, and is needed first.
    for node in range(len(book) - 1, -1, -1):
        bounds[node] = node_bounds(book, looks, units, bounds, node)
    return bounds


# Bounds are those of the nodes that it holds, at least.
def node_bounds(book, looks, units, bounds, node):
    kind = book[node][KIND]
    if kind == "picture":
        return (book[node][STUFF][0], book[node][STUFF][0])
    if kind in KINDS_OF_PIECES:
        return with_insets(looks, node, units_low(units[node]), row_length(units[node]))
    held = holds(book, node)
    if kind == "shelf":
        low = sum([floor_of(looks, bounds, one) for one in held])
        return with_insets(looks, node, low, sum([wish_of(looks, bounds, one) for one in held]))
    if kind == "grid":
        columns = look_at(looks, node, "columns")
        low = grid_width(looks, columns, held, [bounds[one][LOW] for one in held])
        return with_insets(looks, node, low, grid_width(looks, columns, held, [bounds[one][GREAT] for one in held]))
    inner = [bounds_in_pile(book, looks, bounds, one) for one in held]
    low = max([one[LOW] for one in inner], default=0)
    return with_insets(looks, node, low, max([one[GREAT] for one in inner], default=0))


def with_insets(looks, node, low, great):
    both = 2 * look_at(looks, node, "inset")
    return (low + both, great + both)


def units_low(units):
    return max([unit[UNIT_WIDE] for unit in units])


# How narrow one that a shelf holds may be.
def floor_of(looks, bounds, one):
    return max(bounds[one][LOW], look_at(looks, one, "least"))


# How wide one that a shelf holds may be.
def roof_of(looks, bounds, one):
    return max(look_at(looks, one, "most"), floor_of(looks, bounds, one))


# How wide one that a shelf holds would be.
def wish_of(looks, bounds, one):
    return min(max(bounds[one][GREAT], floor_of(looks, bounds, one)), roof_of(looks, bounds, one))


# How wide a grid is whose columns are all as wide as its cells, so wide, need them to be.
def grid_width(looks, columns, held, wides):
    needed = [rounded_up(wide, min(look_at(looks, one, "span"), columns)) for one, wide in zip(held, wides)]
    return columns * max(needed)


def rounded_up(length, parts):
    return -(-length // parts)


# An aside is as wide as its look tells, whatever it holds.
def bounds_in_pile(book, looks, bounds, one):
    if book[one][KIND] == "aside":
        return (look_at(looks, one, "wide"), look_at(looks, one, "wide"))
    return bounds[one]
