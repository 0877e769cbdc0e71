"""Insides: where a node and all that it holds stand."""

from leafpress.books import KIND, STUFF
from leafpress.sizes import SIZE_HIGH, held_tops
from leafpress.spans import LEFT, WIDE


def insides(book, looks, spans, sizes, node, top):
    told = []
    tops = {node: top}
    # What hangs in a node stands behind it, so its top is there by then; what has none does not hang in the first one.
    for one in range(node, len(book)):
        if one in tops:
            told.append((one, spans[one][LEFT], tops[one], own_wide(book, spans, one), sizes[one][SIZE_HIGH]))
            for other, below in held_tops(book, looks, sizes, one):
                tops[other] = tops[one] + below
    return told


# A picture stays as wide as it is, whatever its span.
def own_wide(book, spans, node):
    return book[node][STUFF][0] if book[node][KIND] == "picture" else spans[node][WIDE]
