"""What the other modules need to know of signs, words, names and figures."""

SMALL_LETTERS = "abcdefghijklmnopqrstuvwxyz"
GREAT_LETTERS = "ABCDEFGHIJKLMNOPQRSTUVWXYZ"
FIGURES = "0123456789"
WORD_POINTS = ".,-;:'()!?"
MOST_WORD_SIGNS = 20
MOST_NAME_SIGNS = 8

# The tab and both line ends, by number: a carriage return can't be written out here.
LOW_TEXT_SIGNS = (9, 10, 13)


# Python counts True and False among the ints; here they are none.
def is_whole(value, low, high):
    return isinstance(value, int) and not isinstance(value, bool) and low <= value <= high


def is_text_sign(value):
    if not isinstance(value, str) or len(value) != 1:
        return False
    return " " <= value <= "~" or ord(value) in LOW_TEXT_SIGNS


def is_word_sign(sign):
    return sign in SMALL_LETTERS or sign in GREAT_LETTERS or sign in FIGURES or sign in WORD_POINTS


def is_word(value):
    if not isinstance(value, str) or not 1 <= len(value) <= MOST_WORD_SIGNS:
        return False
    return all([is_word_sign(sign) for sign in value])


# The text without signs is no name here: it stands for a node that has none.
def is_name(value):
    if not isinstance(value, str) or not 1 <= len(value) <= MOST_NAME_SIGNS:
        return False
    return all([sign in SMALL_LETTERS for sign in value])
