"""The looker-over of papers of breakings."""

from leafpress.breaks import COUNT, ROWS, SUMS, fewest_rows, row_blemish, sums_of_no_row


# The sums are looked over from no row on, each by those one row ahead, so the rows are held to sums that are right.
def breaks_hold(units, width, narrow, paper):
    sums = paper[SUMS]
    if [len(ends) for ends in sums] != [len(units) + 1 for row in range(len(units) + 1)]:
        return False
    blemishes = blemishes_of_rows(units, width, narrow)
    if sums[0] != sums_of_no_row(units):
        return False
    if not all([sums_hold(sums[row], blemishes[row], sums[row + 1]) for row in range(len(units))]):
        return False
    return rows_hold(blemishes, sums, paper[ROWS])


# For each row, and for each end, the blemish of each beginning. All narrower rows are alike, and so are all others.
def blemishes_of_rows(units, width, narrow):
    narrower = blemishes_by_end(units, width, narrow, 0)
    others = blemishes_by_end(units, width, narrow, narrow[COUNT])
    return [narrower if row < narrow[COUNT] else others for row in range(len(units))]


def blemishes_by_end(units, width, narrow, row):
    told = []
    for last in range(len(units) + 1):
        told.append([row_blemish(units, first, last, width, narrow, row) for first in range(last)])
    return told


def sums_hold(ahead, blemishes, told):
    return all([least_of(sums_met(ahead, blemishes[last])) == told[last] for last in range(len(told))])


# For each beginning of a row the sum ahead and the blemish together, None where one of them is not there.
def sums_met(ahead, blemishes):
    return [None if one is None or blemish is None else one + blemish for one, blemish in zip(ahead, blemishes)]


def least_of(sums):
    return min([one for one in sums if one is not None], default=None)


def rows_hold(blemishes, sums, rows):
    if len(rows) != fewest_rows(sums):
        return False
    last = len(sums) - 1
    for row in range(len(rows) - 1, -1, -1):
        met = sums_met(sums[row], blemishes[row][last])
        first = met.index(sums[row + 1][last])
        if rows[row] != (first, last):
            return False
        last = first
    return True
