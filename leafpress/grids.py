"""Grids: where their cells stand, and how high their rows are."""

from leafpress.rules import look_at

# The places in a place of a cell.
ROW = 0
COLUMN = 1
SPAN = 2
DEEP = 3


# The cells (span, deep) of the nodes that a grid holds.
def cells_of(looks, held):
    return [(look_at(looks, one, "span"), look_at(looks, one, "deep")) for one in held]


def grid_places(columns, cells):
    places = []
    taken = {}
    for span, deep in cells:
        place = first_place(columns, taken, min(span, columns), deep)
        places.append(place)
        for spot in spots_of(place):
            taken[spot] = True
    return places


# Below all cells there is room for any one, so this ends.
def first_place(columns, taken, span, deep):
    row = 0
    while True:
        for column in range(columns - span + 1):
            place = (row, column, span, deep)
            if not any([spot in taken for spot in spots_of(place)]):
                return place
        row += 1


# The (row, column) that a cell covers.
def spots_of(place):
    spots = []
    for row in range(place[ROW], place[ROW] + place[DEEP]):
        spots.extend([(row, column) for column in range(place[COLUMN], place[COLUMN] + place[SPAN])])
    return spots


def grid_highs(places, highs):
    told = []
    for row in range(max([end_of(place) for place in places], default=0)):
        needed = [high - sum(told[place[ROW]:]) for place, high in zip(places, highs) if end_of(place) == row + 1]
        told.append(max([0] + needed))
    return told


# The row behind the last one of a cell.
def end_of(place):
    return place[ROW] + place[DEEP]
