"""Settings: where in its row each unit begins."""

from leafpress.units import UNIT_BLANK, UNIT_WIDE, row_length

TO_THE_RIGHT = 1
IN_THE_MIDDLE = 2
TO_BOTH_SIDES = 3


def set_row(units, first, last, width, align):
    row = units[first:last]
    left = max(width - row_length(row), 0)
    wider = [0 for unit in row]
    # A row of one unit has no gaps, and so stands to the left.
    if align == TO_BOTH_SIDES and last < len(units):
        wider = shared_among(left, len(row) - 1)
    begins = [space_ahead(left, align)]
    for unit, more in zip(row[:-1], wider):
        begins.append(begins[-1] + unit[UNIT_WIDE] + unit[UNIT_BLANK] + more)
    return begins


# What stands ahead of a whole row.
def space_ahead(left, align):
    if align == TO_THE_RIGHT:
        return left
    return left // 2 if align == IN_THE_MIDDLE else 0


def shared_among(left, gaps):
    return [left // gaps + 1 if gap < left % gaps else left // gaps for gap in range(gaps)]
