"""Winners: which rule tells each property of each node."""

from leafpress.books import ELDER
from leafpress.rules import HANDED_DOWN, PROPERTIES, RANK, SETS, UNTOLD, count_conditions, fits

# The places in a row of a paper.
WORD = 1
VALUE = 3


def winners(book, rules):
    paper = []
    for node in range(len(book)):
        fitting = [number for number, rule in enumerate(rules) if fits(book, rule, node)]
        for place, word in enumerate(PROPERTIES):
            winner = winner_of(rules, fitting, word)
            if winner is not None:
                paper.append((node, word, ("rule", winner), dict(rules[winner][SETS])[word]))
            elif word in HANDED_DOWN and node > 0:
                elder = book[node][ELDER]
                paper.append((node, word, ("elder", elder), paper[elder * len(PROPERTIES) + place][VALUE]))
            else:
                paper.append((node, word, ("own",), UNTOLD[word]))
    return paper


# The number of the rule that wins, of those that fit, or None.
def winner_of(rules, fitting, word):
    setting = [number for number in fitting if word in dict(rules[number][SETS])]
    return max(setting, key=lambda number: precedence(rules, number), default=None)


def precedence(rules, number):
    return (rules[number][RANK], count_conditions(rules[number]), number)


def looks_of(paper):
    looks = []
    for row in paper:
        if row[WORD] == PROPERTIES[0]:
            looks.append([])
        looks[-1].append(row[VALUE])
    return looks
