import random
import unittest

from leafpress.breaks import broken, row_blemish
from leafpress.overbreaks import breaks_hold
from tests.helpers import Untouched, any_units, share_a_list, units_of


class Blemishes(Untouched):
    def blemish(self, units, first, last, width, narrow=(0, 0), row=0):
        told = self.ask(row_blemish, units, first, last, width, narrow, row)
        if told is not None:
            self.assertIs(type(told), int)
        return told

    def test_just_full(self):
        self.assertEqual(self.blemish(units_of(10, 20, 30), 0, 2, 30), 0)
        self.assertEqual(self.blemish(units_of(10, 20, 30), 1, 2, 20), 0)

    def test_the_square_of_what_is_left(self):
        for width, square in ((31, 1), (32, 4), (35, 25), (130, 10000), (4000, 3970 * 3970)):
            self.assertEqual(self.blemish(units_of(10, 20, 30), 0, 2, width), square)
        self.assertEqual(self.blemish(units_of(10, 20, 30), 0, 1, 17), 49)
        self.assertEqual(self.blemish(units_of(10, 20, 30), 1, 2, 17 + 10), 49)

    def test_the_last_row_of_all(self):
        for first, width in ((0, 60), (0, 61), (0, 4000), (1, 50), (2, 30), (2, 90)):
            self.assertEqual(self.blemish(units_of(10, 20, 30), first, 3, width), 0)
        self.assertEqual(self.blemish(units_of(7), 0, 1, 9), 0)

    def test_one_unit_that_is_longer(self):
        for first in (0, 1, 2):
            units = units_of(25, 25, 25)
            self.assertEqual(self.blemish(units, first, first + 1, 24), 1000001)
            self.assertEqual(self.blemish(units, first, first + 1, 20), 1000005)
            self.assertEqual(self.blemish(units, first, first + 1, 0), 1000025)
        self.assertEqual(self.blemish(units_of(1000), 0, 1, 1), 1000999)

    def test_more_units_that_are_longer(self):
        units = units_of(10, 20, 30)
        for first, last, width in ((0, 2, 29), (1, 3, 49), (0, 3, 59), (0, 3, 0), (0, 2, 0), (1, 3, 5)):
            self.assertIsNone(self.blemish(units, first, last, width))

    def test_blanks_stand_between_units_alone(self):
        units = units_of((10, 3), (20, 5), (30, 7))
        self.assertEqual(self.blemish(units, 0, 1, 10), 0)
        self.assertEqual(self.blemish(units, 0, 2, 33), 0)
        self.assertEqual(self.blemish(units, 0, 2, 40), 49)
        self.assertIsNone(self.blemish(units, 0, 2, 32))
        self.assertEqual(self.blemish(units, 1, 3, 55), 0)
        self.assertIsNone(self.blemish(units, 1, 3, 54))
        self.assertEqual(self.blemish(units, 0, 3, 68), 0)
        self.assertIsNone(self.blemish(units, 0, 3, 67))
        self.assertEqual(self.blemish(units, 1, 2, 19), 1000001)

    def test_units_beside_the_row_do_not_count(self):
        self.assertEqual(self.blemish(units_of((90, 9), (5, 1), (6, 50), (90, 9)), 1, 3, 15), 9)

    def test_narrow_rows(self):
        units = units_of(10, 20, 30)
        for row, left in ((0, 6), (1, 6), (2, 10), (3, 10), (50, 10)):
            self.assertEqual(self.blemish(units, 0, 2, 40, (2, 4), row), left * left)
        self.assertEqual(self.blemish(units, 0, 2, 34, (1, 4), 0), 0)
        self.assertIsNone(self.blemish(units, 0, 2, 33, (1, 4), 0))
        self.assertEqual(self.blemish(units, 0, 2, 33, (1, 4), 1), 9)
        self.assertEqual(self.blemish(units, 2, 3, 33, (1, 4), 0), 1000001)
        self.assertEqual(self.blemish(units, 2, 3, 33, (1, 4), 1), 0)

    def test_at_and_behind_the_count(self):
        units = units_of(10, 10)
        for count in (0, 1, 2, 7):
            for row in range(9):
                self.assertEqual(self.blemish(units, 0, 1, 20, (count, 3), row), 49 if row < count else 100)

    def test_narrow_by_nothing(self):
        self.assertEqual(self.blemish(units_of(10, 10), 0, 1, 20, (5, 0), 1), 100)

    def test_a_narrow_width_that_would_be_less_than_0(self):
        units = units_of(10, 20)
        for by in (30, 31, 500):
            self.assertEqual(self.blemish(units, 0, 1, 30, (1, by), 0), 1000010)
            self.assertEqual(self.blemish(units, 1, 2, 30, (1, by), 0), 1000020)
            self.assertIsNone(self.blemish(units, 0, 2, 30, (1, by), 0))
            self.assertEqual(self.blemish(units, 0, 2, 30, (1, by), 1), 0)
        self.assertEqual(self.blemish(units, 0, 1, 30, (1, 29), 0), 1000009)

    def test_by_name(self):
        self.assertEqual(row_blemish(units=units_of(1, 1), first=0, last=1, width=3, narrow=(1, 1), row=0), 1)


class Breaking(Untouched):
    def broken(self, units, width, *narrow):
        """The paper of a breaking, looked over too."""
        told = self.ask(broken, units, width, *narrow)
        rows, sums = told
        self.assertEqual([type(told), type(rows), type(sums)], [tuple, list, list])
        for row in rows:
            self.assertEqual([type(row)] + [type(part) for part in row], [tuple, int, int])
        self.assertEqual([len(sums)] + [len(one) for one in sums], [len(units) + 1] * (len(units) + 2))
        for one in sums:
            self.assertIs(type(one), list)
            self.assertTrue(all(part is None or type(part) is int for part in one))
        self.assertIs(self.ask(breaks_hold, units, width, *(narrow or [(0, 0)]), told), True)
        self.assertFalse(share_a_list(told, units, broken(units, width, *narrow)))
        return told


class Papers(Breaking):
    def test_sums_of_each_number_of_rows_and_units(self):
        rows, sums = self.broken(units_of(3, 4, 5, blank=1), 8)
        self.assertEqual(sums, [
            [0, None, None, None],
            [None, 25, 0, None],
            [None, None, 25 + 16, 0],
            [None, None, None, 25 + 16],
        ])
        self.assertEqual(rows, [(0, 2), (2, 3)])

    def test_the_last_row_costs_nothing_and_earlier_ones_do(self):
        self.assertEqual(self.broken(units_of(1, 1), 10), ([(0, 2)], [[0, None, None], [None, 81, 0], [None, None, 81]]))

    def test_one_unit(self):
        for width in (7, 8, 4000):
            self.assertEqual(self.broken(units_of(7), width), ([(0, 1)], [[0, None], [None, 0]]))
        self.assertEqual(self.broken(units_of(7), 6), ([(0, 1)], [[0, None], [None, 1000001]]))

    def test_a_unit_wider_than_the_width(self):
        self.assertEqual(self.broken(units_of(2, 9, 2), 5), ([(0, 1), (1, 2), (2, 3)], [
            [0, None, None, None],
            [None, 9, None, None],
            [None, None, 9 + 1000004, None],
            [None, None, None, 9 + 1000004],
        ]))
        self.assertEqual(self.broken(units_of(9, 2, 2), 5)[0], [(0, 1), (1, 3)])
        self.assertEqual(self.broken(units_of(2, 2, 9), 5)[0], [(0, 2), (2, 3)])
        self.assertEqual(self.broken(units_of(2, 2, 9), 5)[1][2], [None, None, 18, 1 + 1000004])

    def test_the_least_sum_not_the_fullest_rows(self):
        rows, sums = self.broken(units_of(3, 2, 2, 5, 1), 6, (0, 0))
        self.assertEqual(rows, [(0, 1), (1, 3), (3, 5)])
        self.assertEqual(sums[3][5], 9 + 4)
        self.assertEqual(self.broken(units_of(3, 2, 2, 5, 9), 6)[1][4][5], 9 + 4 + 1 + 1000003)

    def test_more_rows_than_the_fewest_possible_where_they_cost_less(self):
        """A word that juts over a narrow row costs more than one row more."""
        rows, sums = self.broken(units_of(1, 1, 9), 9, (2, 5))
        self.assertEqual([one[-1] for one in sums], [None, None, 4 + 1000005, 9 + 9])
        self.assertEqual(rows, [(0, 1), (1, 2), (2, 3)])

    def test_of_numbers_of_rows_with_the_same_sum_the_fewest(self):
        rows, sums = self.broken(units_of(25, 40, 1002), 1002, (2, 1))
        self.assertEqual([one[-1] for one in sums], [None, None, 1876097, 1876097])
        self.assertEqual(rows, [(0, 2), (2, 3)])
        rows, sums = self.broken(units_of(1, 1, 631, 710), 710, (3, 2))
        self.assertEqual([one[-1] for one in sums], [None, None, 1005627, 1504367, 1005627])
        self.assertEqual(rows, [(0, 3), (3, 4)])

    def test_units_without_width(self):
        rows, sums = self.broken(units_of(5, 0, 0), 5)
        self.assertEqual([one[-1] for one in sums], [None, 0, 0, 25])
        self.assertEqual(rows, [(0, 3)])

    def test_of_beginnings_that_meet_the_sums_the_least_from_the_end_on(self):
        rows, sums = self.broken(units_of(1, 1, 1, 2), 2)
        self.assertEqual(sums[3][4], 1)
        self.assertEqual(rows, [(0, 1), (1, 3), (3, 4)])
        self.assertEqual(self.broken(units_of(1, 1, 1, 3, blank=1), 4)[0], [(0, 1), (1, 3), (3, 4)])
        self.assertEqual(self.broken(units_of(1, 1, 3, 2), 4, (1, 2))[0], [(0, 1), (1, 3), (3, 4)])
        self.assertEqual(self.broken(units_of(1, 1, 1, 2, 1, 1, 1, 2), 2)[0],
                         [(0, 1), (1, 3), (3, 4), (4, 5), (5, 7), (7, 8)])

    def test_narrow(self):
        units = units_of(2, 2, 2, 2, 2, 2)
        self.assertEqual(self.broken(units, 6)[0], [(0, 3), (3, 6)])
        self.assertEqual(self.broken(units, 6, (1, 2))[0], [(0, 2), (2, 5), (5, 6)])
        self.assertEqual(self.broken(units, 6, (2, 2))[0], [(0, 2), (2, 4), (4, 6)])
        self.assertEqual(self.broken(units, 6, (2, 4))[0], [(0, 1), (1, 2), (2, 5), (5, 6)])
        self.assertEqual(self.broken(units, 6, (9, 4))[0], [(k, k + 1) for k in range(6)])
        self.assertEqual(self.broken(units, 6, (0, 4)), broken(units, 6))
        self.assertEqual(self.broken(units, 6, (4, 0)), broken(units, 6))

    def test_narrow_in_the_sums(self):
        self.assertEqual(self.broken(units_of(2, 2, 2), 5, (1, 2))[1], [
            [0, None, None, None],
            [None, 1, None, None],
            [None, None, 1 + 9, 1],
            [None, None, None, 1 + 9],
        ])

    def test_narrow_to_less_than_0(self):
        rows, sums = self.broken(units_of(2, 2, 2), 5, (2, 60))
        self.assertEqual(rows, [(0, 1), (1, 2), (2, 3)])
        self.assertEqual(sums[3][3], 2000004)

    def test_narrow_left_out(self):
        units = units_of(3, 1, 4, 1, 5, 9, 2, 6, blank=1)
        self.assertEqual(self.broken(units, 11), self.broken(units, 11, (0, 0)))
        self.assertEqual(self.ask(broken, units, 11, None), broken(units, 11, (0, 0)))

    def test_a_width_of_0(self):
        rows, sums = self.broken(units_of(1, 2, 3, blank=4), 0)
        self.assertEqual(rows, [(0, 1), (1, 2), (2, 3)])
        self.assertEqual(sums, [
            [0, None, None, None],
            [None, 1000001, None, None],
            [None, None, 2000003, None],
            [None, None, None, 3000006],
        ])

    def test_sixty_units(self):
        units = units_of(*[7] * 60, blank=3)
        rows, sums = self.broken(units, 97)
        self.assertEqual(rows, [(k, k + 10) for k in range(0, 60, 10)])
        self.assertEqual(sums[6][60], 0)
        self.assertEqual(sums[60][60], 59 * 90 * 90)
        self.assertEqual(sums[5], [None] * 5 + sums[5][5:51] + [None] * 10)
        self.assertNotIn(None, sums[5][5:51])
        self.assertEqual(len(self.broken(units, 6)[0]), 60)
        self.assertEqual(self.broken(units, 4000)[0], [(0, 60)])

    def test_blanks(self):
        self.assertEqual(self.broken(units_of((4, 9), (4, 1), (4, 0)), 9)[0], [(0, 1), (1, 3)])
        self.assertEqual(self.broken(units_of((4, 1), (4, 9), (4, 0)), 9)[0], [(0, 2), (2, 3)])

    def test_by_name(self):
        self.assertEqual(broken(units=units_of(1), width=1, narrow=(0, 0)), ([(0, 1)], [[0, None], [None, 0]]))

    def test_what_is_told_is_its_own(self):
        units = units_of(1, 2, 3)
        first = broken(units, 3)
        for one in first[1]:
            one.clear()
        first[0].clear()
        self.assertEqual(broken(units, 3)[0], [(0, 2), (2, 3)])


def breakings(many):
    """All lists of rows that hold the first so many units."""
    if many == 0:
        yield []
    for first in range(many):
        for rows in breakings(first):
            yield rows + [(first, many)]


def cost(units, width, narrow, rows):
    """The sum of the blemishes of rows, None where they can't be."""
    total = 0
    for number, (first, last) in enumerate(rows):
        own = max(0, width - narrow[1]) if number < narrow[0] else width
        length = sum(units[k][0] for k in range(first, last)) + sum(units[k][1] for k in range(first, last - 1))
        if length <= own:
            total += (own - length) ** 2 * (last != len(units))
        elif last == first + 1:
            total += 10 ** 6 + length - own
        else:
            return None
    return total


class AnyBreaks(Breaking):
    def right(self, units, width, narrow):
        """The paper, once more, by all breakings that there are."""
        many = len(units)
        sums = [[None] * (many + 1) for row in range(many + 1)]
        best = {}
        for last in range(many + 1):
            for rows in breakings(last):
                total = cost(units, width, narrow, rows)
                old = sums[len(rows)][last]
                if total is not None and (old is None or total < old):
                    sums[len(rows)][last] = total
                if total is not None and last == many:
                    best[(total, len(rows), tuple(first for first, end in reversed(rows)))] = rows
        return (best[min(best)], sums)

    def any_narrow(self, chance, width):
        return (chance.choice([0, 1, 2, 3, 9]), chance.choice([0, 1, 2, width // 2, width, width + 5]))

    def test_by_all_breakings(self):
        for seed in range(400):
            chance = random.Random(seed)
            units = any_units(chance, chance.randint(1, 8))
            width = chance.randint(0, chance.choice([3, 12, 60, 200]))
            narrow = self.any_narrow(chance, width)
            self.assertEqual(self.broken(units, width, narrow), self.right(units, width, narrow), seed)

    def test_many_units(self):
        """No breaking by chance costs less, and what is told costs what it is told to."""
        for seed in range(25):
            chance = random.Random(seed)
            units = any_units(chance, chance.randint(20, 60))
            width = chance.randint(0, chance.choice([12, 60, 200, 900]))
            narrow = self.any_narrow(chance, width)
            rows, sums = self.broken(units, width, narrow)
            self.assertEqual([first for first, last in rows] + [len(units)], [0] + [last for first, last in rows])
            told = cost(units, width, narrow, rows)
            self.assertEqual(told, sums[len(rows)][-1])
            self.assertEqual(told, min(one[-1] for one in sums if one[-1] is not None))
            for k in range(40):
                inner = sorted(chance.sample(range(1, len(units)), chance.randrange(len(units))))
                other = list(zip([0] + inner, inner + [len(units)]))
                total = cost(units, width, narrow, other)
                if total is not None:
                    self.assertLessEqual(sums[len(other)][-1], total)
                    self.assertLessEqual(told, total)


if __name__ == "__main__":
    unittest.main()
