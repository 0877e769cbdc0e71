import random
import unittest

from leafpress.settings import set_row
from tests.helpers import Untouched, any_units, share_a_list, units_of

LEFT, RIGHT, MIDDLE, BOTH = range(4)


class Settings(Untouched):
    UNITS = units_of(10, 20, 30, 40)

    def row(self, units, first, last, width, align):
        told = self.ask(set_row, units, first, last, width, align)
        self.assertEqual([type(told)] + [type(one) for one in told], [list] + [int] * (last - first))
        return told

    def test_to_the_left(self):
        for width in (60, 61, 75, 4000):
            self.assertEqual(self.row(self.UNITS, 0, 3, width, LEFT), [0, 10, 30])
        self.assertEqual(self.row(self.UNITS, 1, 3, 90, LEFT), [0, 20])

    def test_to_the_right(self):
        self.assertEqual(self.row(self.UNITS, 0, 3, 60, RIGHT), [0, 10, 30])
        self.assertEqual(self.row(self.UNITS, 0, 3, 61, RIGHT), [1, 11, 31])
        self.assertEqual(self.row(self.UNITS, 1, 3, 57, RIGHT), [7, 27])

    def test_in_the_middle(self):
        self.assertEqual(self.row(self.UNITS, 0, 3, 60, MIDDLE), [0, 10, 30])
        self.assertEqual(self.row(self.UNITS, 0, 3, 66, MIDDLE), [3, 13, 33])

    def test_in_the_middle_what_is_left_being_odd(self):
        for left, ahead in ((1, 0), (2, 1), (3, 1), (5, 2), (101, 50)):
            self.assertEqual(self.row(self.UNITS, 0, 3, 60 + left, MIDDLE), [ahead, ahead + 10, ahead + 30])

    def test_to_both_sides(self):
        self.assertEqual(self.row(self.UNITS, 0, 3, 60, BOTH), [0, 10, 30])
        self.assertEqual(self.row(self.UNITS, 0, 3, 66, BOTH), [0, 13, 36])
        self.assertEqual(self.row(self.UNITS, 0, 2, 66, BOTH), [0, 46])
        self.assertEqual(self.row(self.UNITS, 1, 3, 66, BOTH), [0, 36])

    def test_to_both_sides_with_something_over_for_the_first_gaps(self):
        self.assertEqual(self.row(self.UNITS, 0, 3, 61, BOTH), [0, 11, 31])
        self.assertEqual(self.row(self.UNITS, 0, 3, 65, BOTH), [0, 13, 35])
        units = units_of(5, 5, 5, 5, 5, 5)
        for left, begins in ((1, [0, 6, 11, 16, 21]), (2, [0, 6, 12, 17, 22]), (3, [0, 6, 12, 18, 23]),
                             (4, [0, 6, 12, 18, 24]), (5, [0, 7, 13, 19, 25]), (7, [0, 7, 14, 21, 27])):
            self.assertEqual(self.row(units, 0, 5, 25 + left, BOTH), begins)

    def test_to_both_sides_the_last_row_of_all(self):
        self.assertEqual(self.row(self.UNITS, 0, 4, 190, BOTH), [0, 10, 30, 60])
        self.assertEqual(self.row(self.UNITS, 2, 4, 90, BOTH), [0, 30])
        self.assertEqual(self.row(self.UNITS, 3, 4, 90, BOTH), [0])

    def test_to_both_sides_a_row_of_one_unit(self):
        for first in range(4):
            self.assertEqual(self.row(self.UNITS, first, first + 1, 90, BOTH), [0])

    def test_the_last_row_of_all_in_other_aligns(self):
        self.assertEqual(self.row(self.UNITS, 2, 4, 91, LEFT), [0, 30])
        self.assertEqual(self.row(self.UNITS, 2, 4, 91, RIGHT), [21, 51])
        self.assertEqual(self.row(self.UNITS, 2, 4, 91, MIDDLE), [10, 40])

    def test_a_row_of_one_unit_in_other_aligns(self):
        self.assertEqual(self.row(self.UNITS, 1, 2, 31, LEFT), [0])
        self.assertEqual(self.row(self.UNITS, 1, 2, 31, RIGHT), [11])
        self.assertEqual(self.row(self.UNITS, 1, 2, 31, MIDDLE), [5])

    def test_a_row_that_is_longer_than_its_width(self):
        for align in (LEFT, RIGHT, MIDDLE, BOTH):
            for first in (0, 1, 3):
                for width in (0, 1, 9):
                    self.assertEqual(self.row(self.UNITS, first, first + 1, width, align), [0])
            self.assertEqual(self.row(units_of((10, 2), (20, 4), (30, 6), 5), 0, 3, 50, align), [0, 12, 36])

    def test_blanks(self):
        units = units_of((10, 1), (20, 5), (30, 9), (40, 7))
        self.assertEqual(self.row(units, 0, 3, 66, LEFT), [0, 11, 36])
        self.assertEqual(self.row(units, 0, 3, 76, RIGHT), [10, 21, 46])
        self.assertEqual(self.row(units, 0, 3, 75, MIDDLE), [4, 15, 40])
        self.assertEqual(self.row(units, 0, 3, 75, BOTH), [0, 16, 45])
        self.assertEqual(self.row(units, 2, 4, 99, BOTH), [0, 39])
        self.assertEqual(self.row(units, 2, 4, 99, RIGHT), [20, 59])

    def test_any_row(self):
        for seed in range(300):
            chance = random.Random(seed)
            units = any_units(chance, chance.randint(1, 12))
            first = chance.randrange(len(units))
            last = chance.randint(first + 1, len(units))
            width, align = chance.randint(0, 150), chance.randrange(4)
            told = self.row(units, first, last, width, align)
            row = units[first:last]
            gaps = [after - (begin + unit[0] + unit[1]) for begin, after, unit in zip(told, told[1:], row)]
            behind = width - told[-1] - row[-1][0]
            left = told[0] + sum(gaps) + behind
            self.assertEqual(left, width - sum(unit[0] for unit in row) - sum(unit[1] for unit in row[:-1]))
            if left <= 0 or align == LEFT or (align == BOTH and (last == len(units) or not gaps)):
                self.assertEqual([told[0]] + gaps, [0] * len(row))
            elif align == BOTH:
                self.assertEqual([told[0], behind], [0, 0])
                self.assertEqual(gaps, sorted(gaps, reverse=True))
                self.assertLessEqual(gaps[0] - gaps[-1], 1)
            else:
                self.assertEqual(gaps, [0] * len(gaps))
                self.assertIn(behind - told[0], [-left] if align == RIGHT else [0, 1])

    def test_by_name(self):
        self.assertEqual(set_row(units=units_of(1, 1, 1), first=0, last=2, width=5, align=1), [3, 4])

    def test_what_is_told_is_its_own(self):
        first = set_row(self.UNITS, 0, 2, 90, BOTH)
        self.assertFalse(share_a_list(first, set_row(self.UNITS, 0, 2, 90, BOTH), self.UNITS))
        first.clear()
        self.assertEqual(set_row(self.UNITS, 0, 2, 90, BOTH), [0, 70])


if __name__ == "__main__":
    unittest.main()
