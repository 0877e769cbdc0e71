"""The looker-over of papers of winners."""

from leafpress.rules import PROPERTIES, SETS, fits
from leafpress.winners import NODE, VALUE, WHY, WORD, precedence, untold_of


def winners_hold(book, rules, paper):
    if [row[:WHY] for row in paper] != headings(book):
        return False
    for node in range(len(book)):
        fitting = [number for number, rule in enumerate(rules) if fits(book, rule, node)]
        rows = paper[node * len(PROPERTIES):(node + 1) * len(PROPERTIES)]
        if not all([row_holds(book, rules, fitting, paper, row) for row in rows]):
            return False
    return True


# What each row must begin with.
def headings(book):
    told = []
    for node in range(len(book)):
        told.extend([(node, word) for word in PROPERTIES])
    return told


def row_holds(book, rules, fitting, paper, row):
    setting = [number for number in fitting if row[WORD] in dict(rules[number][SETS])]
    if len(setting) == 0:
        return row == row[:WHY] + untold_of(book, paper, row[NODE], row[WORD])
    return names_the_winner(rules, setting, row)


# Whether no one of the rules that set the property goes before the one that the row names.
def names_the_winner(rules, setting, row):
    why = row[WHY]
    if len(why) != 2 or why[0] != "rule" or why[1] not in setting:
        return False
    if row[VALUE] != dict(rules[why[1]][SETS])[row[WORD]]:
        return False
    return not any([precedence(rules, other) > precedence(rules, why[1]) for other in setting])
