"""Breaks: units broken into rows at the least sum of blemishes."""

from leafpress.units import row_length

# The places in (count, by), which tells that the first count rows are narrower by so much.
COUNT = 0
BY = 1
NONE_NARROWER = (0, 0)

# The places in a paper of a breaking.
ROWS = 0
SUMS = 1

TOO_LONG = 1000000


def row_blemish(units, first, last, width, narrow, row):
    left = row_width(width, narrow, row) - row_length(units[first:last])
    if left < 0:
        return TOO_LONG - left if last - first == 1 else None
    return 0 if last == len(units) else left * left


def row_width(width, narrow, row):
    return max(width - narrow[BY], 0) if row < narrow[COUNT] else width


def broken(units, width, narrow=None):
    ways = ways_of_rows(units, width, NONE_NARROWER if narrow is None else narrow)
    sums = [sums_of_no_row(units)]
    for row in range(len(units)):
        ahead = sums[row]
        sums.append([least_sum(ahead, beginnings) for beginnings in ways[row]])
    return (chosen_rows(ways, sums), sums)


def sums_of_no_row(units):
    return [0] + [None for unit in units]


# For each row, and for each end that it may have, its beginnings. All narrower rows are alike, and so are all others:
# each is looked for once.
def ways_of_rows(units, width, narrow):
    narrower = ways_by_end(units, width, narrow, 0)
    others = ways_by_end(units, width, narrow, narrow[COUNT])
    return [narrower if row < narrow[COUNT] else others for row in range(len(units))]


def ways_by_end(units, width, narrow, row):
    return [beginnings_of(units, last, width, narrow, row) for last in range(len(units) + 1)]


# The tuples (first, blemish) of the rows that end at last.
def beginnings_of(units, last, width, narrow, row):
    found = []
    for first in range(last - 1, -1, -1):
        blemish = row_blemish(units, first, last, width, narrow, row)
        # A row that is too long gets no shorter with more units ahead.
        if blemish is None:
            break
        found.append((first, blemish))
    return found


def least_sum(ahead, beginnings):
    return min([ahead[first] + blemish for first, blemish in beginnings if ahead[first] is not None], default=None)


def chosen_rows(ways, sums):
    rows = []
    last = len(sums) - 1
    for row in range(fewest_rows(sums) - 1, -1, -1):
        first = first_met(sums[row], ways[row][last], sums[row + 1][last])
        rows.insert(0, (first, last))
        last = first
    return rows


# There is always such a number: each unit may have its own row.
def fewest_rows(sums):
    whole = [ends[-1] for ends in sums]
    return whole.index(min([one for one in whole if one is not None]))


# The least of the beginnings with which a sum is met.
def first_met(ahead, beginnings, met):
    return min([first for first, blemish in beginnings if ahead[first] is not None and ahead[first] + blemish == met])
