"""Shares of a width, dot by dot, and their looker-over."""


# The next dot goes where what one has, divided by its weight, is least. Times a multiple of all weights these are whole
# numbers, called levels here; so it is sought up to which level all dots went, and the rest go at that level.
def shares(width, floors, roofs, weights):
    if sum(floors) >= width:
        return list(floors)
    if sum(roofs) <= width:
        return list(roofs)
    multiple = common_multiple(weights)
    level = last_level(width, floors, roofs, weights, multiple)
    told = had_below(level, floors, roofs, weights, multiple)
    left = width - sum(told)
    for place, weight in enumerate(weights):
        if left > 0 and told[place] < roofs[place] and told[place] * multiple == level * weight:
            told[place] += 1
            left -= 1
    return told


def common_multiple(weights):
    multiple = 1
    for weight in weights:
        step = multiple
        while multiple % weight != 0:
            multiple += step
    return multiple


# The greatest level below which all dots can go: at 0 none do, and at the high one all, which are too many.
def last_level(width, floors, roofs, weights, multiple):
    low = 0
    high = max(roofs) * multiple
    while high - low > 1:
        middle = (low + high) // 2
        if sum(had_below(middle, floors, roofs, weights, multiple)) <= width:
            low = middle
        else:
            high = middle
    return low


# What each one has when all dots below a level went.
def had_below(level, floors, roofs, weights, multiple):
    told = []
    for floor, roof, weight in zip(floors, roofs, weights):
        told.append(min(max(-(-level * weight // multiple), floor), roof))
    return told


def shares_hold(width, floors, roofs, weights, told):
    if len(told) != len(floors):
        return False
    if not all([floor <= one <= roof for floor, one, roof in zip(floors, told, roofs)]):
        return False
    if (sum(told) > width and told != floors) or (sum(told) < width and told != roofs):
        return False
    givers = [place for place, one in enumerate(told) if one > floors[place]]
    takers = [place for place, one in enumerate(told) if one < roofs[place]]
    return all([went_ahead_of_all(weights, told, giver, takers) for giver in givers])


# The one may be among the others: its last dot always went ahead of its own next one.
def went_ahead_of_all(weights, told, one, others):
    return all([went_ahead(weights, told, one, other) for other in others])


# Whether the last dot of the one went ahead of the next dot of the other.
def went_ahead(weights, told, one, other):
    last = (told[one] - 1) * weights[other]
    coming = told[other] * weights[one]
    return last < coming or (last == coming and one < other)
