"""Winners: which rule tells each property of each node."""

from leafpress.books import ELDER
from leafpress.rules import HANDED_DOWN, PROPERTIES, RANK, SETS, UNTOLD, count_conditions, fits

# The places in a row of a paper.
NODE = 0
WORD = 1
WHY = 2
VALUE = 3


def winners(book, rules):
    paper = []
    for node in range(len(book)):
        fitting = [number for number, rule in enumerate(rules) if fits(book, rule, node)]
        for word in PROPERTIES:
            winner = winner_of(rules, fitting, word)
            if winner is None:
                paper.append((node, word) + untold_of(book, paper, node, word))
            else:
                paper.append((node, word, ("rule", winner), dict(rules[winner][SETS])[word]))
    return paper


# The number of the rule that wins, of those that fit, or None.
def winner_of(rules, fitting, word):
    setting = [number for number in fitting if word in dict(rules[number][SETS])]
    return max(setting, key=lambda number: precedence(rules, number), default=None)


def precedence(rules, number):
    return (rules[number][RANK], count_conditions(rules[number]), number)


# Why and value where no rule tells the property, of a paper that has the rows of the elder already.
def untold_of(book, paper, node, word):
    if word not in HANDED_DOWN or node == 0:
        return (("own",), UNTOLD[word])
    elder = book[node][ELDER]
    return (("elder", elder), paper[elder * len(PROPERTIES) + PROPERTIES.index(word)][VALUE])


def looks_of(paper):
    looks = []
    for row in paper:
        if row[WORD] == PROPERTIES[0]:
            looks.append([])
        looks[-1].append(row[VALUE])
    return looks
