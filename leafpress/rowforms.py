"""The forms of rows: what a row tells of a node, by itself."""

from leafpress.books import KINDS, KINDS_OF_PIECES, is_piece, is_stuff
from leafpress.signs import FIGURES, is_name

# What a row tells has the places of a node, but the written level where a node has its elder.
LEVEL = 0

MOST_SIDE_FIGURES = 4


# A tuple (level, kind, name, marks, stuff), or None where a row is not in form.
def row_parts(row):
    level = len(row) - len(row.lstrip(">"))
    words = row[level:].split(" ")
    kind = words[0]
    bar = words.index("|") if "|" in words else len(words)
    if kind not in KINDS or not are_labels(words[1:bar]):
        return None
    if not has_stuff(kind) and bar < len(words):
        return None
    stuff = read_stuff(kind, words[bar + 1:])
    if stuff is None:
        return None
    return (level, kind, name_label(words[1:bar]), mark_labels(words[1:bar]), stuff)


def has_stuff(kind):
    return kind == "picture" or kind in KINDS_OF_PIECES


def are_labels(labels):
    marks = labels
    if len(labels) > 0 and is_label(labels[0], "#"):
        marks = labels[1:]
    return all([is_label(label, ".") for label in marks])


def is_label(label, sign):
    return label.startswith(sign) and is_name(label[1:])


def name_label(labels):
    if len(labels) > 0 and is_label(labels[0], "#"):
        return labels[0][1:]
    return ""


def mark_labels(labels):
    return [label[1:] for label in labels if is_label(label, ".")]


# The stuff, or None where the words are not that of the kind.
def read_stuff(kind, words):
    if kind == "picture":
        sides = [read_side(word) for word in words]
        return sides if is_stuff(kind, sides) else None
    pieces = [read_piece(word) for word in words]
    if None in pieces or has_stuff(kind) != (len(pieces) > 0):
        return None
    return pieces


# A picture's number, or 0, which is none. The figures are counted first: Python does not read a number of any length.
def read_side(word):
    if not 1 <= len(word) <= MOST_SIDE_FIGURES or word.startswith("0"):
        return 0
    return int(word) if all([sign in FIGURES for sign in word]) else 0


# A piece, or None. All note pieces have the number 0: which of them stay is known only when all rows are read.
def read_piece(word):
    if word == "{}":
        return ("note", 0, 0)
    thing = word.lstrip("*")
    tone = len(word) - len(thing)
    piece = ("word", thing, tone)
    if thing.startswith("{") and thing.endswith("}"):
        piece = ("page", thing[1:-1], tone)
    return piece if is_piece(piece) else None
