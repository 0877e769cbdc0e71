"""Faces: how high and wide the signs of a text are."""

from leafpress.errors import NoFace
from leafpress.signs import is_text_sign, is_whole

HIGH = 0
BLANK = 1
WIDE = 2
ODD = 3

GREATEST_HIGH = 100
GREATEST_WIDTH = 50


def made_face(high, blank, wide, odd=None):
    told = [] if odd is None else odd
    if not is_whole(high, 1, GREATEST_HIGH):
        raise NoFace("the rows of a face are 1 to 100 high")
    if not is_whole(blank, 0, GREATEST_WIDTH):
        raise NoFace("the blank of a face is 0 to 50 wide")
    if not is_whole(wide, 1, GREATEST_WIDTH):
        raise NoFace("the signs of a face are 1 to 50 wide")
    if not are_odd_signs(told):
        raise NoFace("odd signs are tuples (sign, width), one unlike sign each, 1 to 50 wide")
    return (high, blank, wide, sorted(told))


def are_odd_signs(odd):
    if not isinstance(odd, list) or not all([is_odd_sign(one) for one in odd]):
        return False
    return len(set([one[0] for one in odd])) == len(odd)


def is_odd_sign(one):
    if not isinstance(one, tuple) or len(one) != 2:
        return False
    return is_text_sign(one[0]) and is_whole(one[1], 1, GREATEST_WIDTH)


def word_width(face, word):
    odd = dict(face[ODD])
    return sum([odd.get(sign, face[WIDE]) for sign in word])


# A copy, so that whoever asked may change its list of odd signs.
def face_at(faces, number):
    face = faces[number % len(faces)]
    return (face[HIGH], face[BLANK], face[WIDE], list(face[ODD]))
