"""Rules: what they set, and which nodes they fit."""

from leafpress.books import KIND, KINDS, MARKS, elders_of
from leafpress.errors import NoRule
from leafpress.signs import is_name, is_whole

# The places in a rule.
RANK = 0
OF_KIND = 1
WITHIN = 2
MARK = 3
SETS = 4

MOST_RULES = 40
GREATEST_RANK = 9

PROPERTIES = (
    "face", "align", "above", "inset", "weight", "least", "most", "columns", "span", "deep", "side", "wide", "fresh",
)
HANDED_DOWN = ("face", "align")

# Of each property its bounds, and what it is where nothing tells it.
BOUNDS = {
    "face": (0, 99),
    "align": (0, 3),
    "above": (0, 400),
    "inset": (0, 400),
    "weight": (1, 9),
    "least": (0, 4000),
    "most": (0, 4000),
    "columns": (1, 6),
    "span": (1, 6),
    "deep": (1, 4),
    "side": (0, 1),
    "wide": (1, 4000),
    "fresh": (0, 1),
}
UNTOLD = {
    "face": 0,
    "align": 0,
    "above": 0,
    "inset": 0,
    "weight": 1,
    "least": 0,
    "most": 4000,
    "columns": 2,
    "span": 1,
    "deep": 1,
    "side": 0,
    "wide": 100,
    "fresh": 0,
}


def made_rules(rules):
    if not isinstance(rules, list) or len(rules) > MOST_RULES:
        raise NoRule("rules are a list of at most 40 rules")
    for number, rule in enumerate(rules):
        fault = rule_fault(rule)
        if fault != "":
            raise NoRule(f"rule {number}: {fault}")
    return [copied_rule(rule) for rule in rules]


def copied_rule(rule):
    return (rule[RANK], rule[OF_KIND], rule[WITHIN], rule[MARK], list(rule[SETS]))


# The fault of a rule, or the text without signs.
def rule_fault(rule):
    if not isinstance(rule, tuple) or len(rule) != 5:
        return "a rule is a tuple (rank, kind, within, mark, sets)"
    if not is_whole(rule[RANK], 0, GREATEST_RANK):
        return "its rank is not from 0 to 9"
    if not is_kind_or_none(rule[OF_KIND]) or not is_kind_or_none(rule[WITHIN]):
        return "there is no such kind"
    if rule[MARK] != "" and not is_name(rule[MARK]):
        return "a mark is one to eight small letters"
    if not are_sets(rule[SETS]):
        return "it sets 1 to 13 unlike properties, within their bounds"
    return ""


def is_kind_or_none(kind):
    return kind == "" or kind in KINDS


# There are 13 properties, so as many unlike ones are no more.
def are_sets(sets):
    if not isinstance(sets, list) or len(sets) == 0 or not all([is_setting(one) for one in sets]):
        return False
    return len(set([one[0] for one in sets])) == len(sets)


def is_setting(one):
    if not isinstance(one, tuple) or len(one) != 2 or one[0] not in PROPERTIES:
        return False
    bounds = BOUNDS[one[0]]
    return is_whole(one[1], bounds[0], bounds[1])


def fits(book, rule, node):
    if rule[OF_KIND] != "" and book[node][KIND] != rule[OF_KIND]:
        return False
    if rule[WITHIN] != "" and rule[WITHIN] not in [book[elder][KIND] for elder in elders_of(book, node)]:
        return False
    return rule[MARK] == "" or rule[MARK] in book[node][MARKS]


def count_conditions(rule):
    return len([told for told in (rule[OF_KIND], rule[WITHIN], rule[MARK]) if told != ""])


def look_at(looks, node, word):
    return looks[node][PROPERTIES.index(word)]
