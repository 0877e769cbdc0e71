import random
import unittest

from leafpress.breaks import broken
from leafpress.overbreaks import breaks_hold
from tests.helpers import Untouched, any_units, units_of


class Holding(Untouched):
    def holds(self, units, width, narrow, paper):
        return self.ask(breaks_hold, units, width, narrow, paper)

    def right(self, paper):
        self.assertIs(self.holds(self.units, self.width, self.narrow, paper), True)

    def wrong(self, paper):
        self.assertIs(self.holds(self.units, self.width, self.narrow, paper), False, paper)


class OnePaper(Holding):
    """A breaking of five units, with one that juts, on rows of which the first one is narrow."""

    def setUp(self):
        self.units, self.width, self.narrow = units_of(3, 2, 9, 1, 4, blank=1), 8, (1, 2)
        self.rows, self.sums = broken(self.units, self.width, self.narrow)

    def with_sums(self, change):
        sums = [list(one) for one in self.sums]
        change(sums)
        return (list(self.rows), sums)

    def test_what_is_told(self):
        self.assertEqual(self.rows, [(0, 2), (2, 3), (3, 5)])
        self.assertEqual(self.sums, [
            [0, None, None, None, None, None],
            [None, 9, 0, None, None, None],
            [None, None, 9 + 36, 1000001, None, None],
            [None, None, None, 45 + 1000001, 49 + 1000001, 1000001],
            [None, None, None, None, 45 + 49 + 1000001, 45 + 1000001],
            [None, None, None, None, None, 45 + 49 + 1000001],
        ])
        self.right((self.rows, self.sums))
        self.assertIs(breaks_hold(units=self.units, width=8, narrow=(1, 2), paper=(self.rows, self.sums)), True)

    def test_each_sum_one_more_or_less(self):
        for number, one in enumerate(self.sums):
            for place, value in enumerate(one):
                for other in (0, 1, -1, 9, 45, 10 ** 40) if value is None else (value - 1, value + 1, -value - 1, None):
                    def change(sums):
                        sums[number][place] = other
                    self.wrong(self.with_sums(change))

    def test_two_sums_exchanged(self):
        def change(sums):
            sums[1][1], sums[1][2] = sums[1][2], sums[1][1]
        self.wrong(self.with_sums(change))

    def test_all_sums_one_more(self):
        def change(sums):
            for number, one in enumerate(sums):
                sums[number] = [None if value is None else value + 1 for value in one]
        self.wrong(self.with_sums(change))

    def test_sums_that_go_on_from_a_wrong_one_as_they_should(self):
        def change(sums):
            for number in range(1, 6):
                sums[number] = [None if value is None else value + 1 for value in sums[number]]
        self.wrong(self.with_sums(change))

        def more(sums):
            for number in range(2, 6):
                sums[number] = [None if value is None else value + 1 for value in sums[number]]
        self.wrong(self.with_sums(more))

    def test_lists_of_sums_left_out_or_added(self):
        for number in range(6):
            self.wrong((list(self.rows), self.sums[:number] + self.sums[number + 1:]))
            self.wrong((list(self.rows), self.sums[:number] + [list(self.sums[number])] + self.sums[number:]))
            self.wrong((list(self.rows), self.sums[:number] + [[]] + self.sums[number + 1:]))
            self.wrong((list(self.rows), self.sums[:number]))
        self.wrong((list(self.rows), self.sums + [[None] * 6]))
        self.wrong((list(self.rows), self.sums + [[]]))

    def test_places_of_sums_left_out_or_added(self):
        for number in range(6):
            for place in range(6):
                def shorter(sums):
                    sums[number].pop(place)
                self.wrong(self.with_sums(shorter))

                def longer(sums):
                    sums[number].insert(place, sums[number][place])
                self.wrong(self.with_sums(longer))
            for more in (None, 0, 1):
                def at_the_end(sums):
                    sums[number].append(more)
                self.wrong(self.with_sums(at_the_end))

    def test_sums_left_out_or_added_everywhere(self):
        def change(sums):
            for one in sums:
                one.pop()
        self.wrong(self.with_sums(change))

        def more(sums):
            for one in sums:
                one.append(None)
        self.wrong(self.with_sums(more))

    def test_a_row_left_out(self):
        for number in range(3):
            self.wrong((self.rows[:number] + self.rows[number + 1:], self.sums))

    def test_a_row_added(self):
        for number in range(4):
            for row in ((0, 0), (5, 5), (0, 5), (0, 2), (2, 3), (3, 5), (5, 6), (-1, 0), (2, 2)):
                self.wrong((self.rows[:number] + [row] + self.rows[number:], self.sums))

    def test_a_row_moved(self):
        for rows in ([(0, 1), (1, 3), (3, 5)], [(0, 2), (2, 4), (4, 5)], [(0, 3), (3, 4), (4, 5)],
                     [(2, 3), (0, 2), (3, 5)], [(3, 5), (2, 3), (0, 2)], [(0, 2), (3, 5), (2, 3)],
                     [(1, 2), (2, 3), (3, 5)], [(0, 2), (2, 3), (4, 5)], [(0, 1), (2, 3), (3, 5)],
                     [(0, 2), (1, 3), (3, 5)], [(0, 2), (2, 3), (2, 5)], [(0, 2), (2, 4), (3, 5)]):
            self.wrong((rows, self.sums))

    def test_each_number_of_a_row_told_wrongly(self):
        for number, (first, last) in enumerate(self.rows):
            for row in ((first - 1, last), (first + 1, last), (first, last - 1), (first, last + 1), (last, first),
                        (-first - 1, last), (first, -last), (first, 10 ** 30), (-10 ** 30, last), (0, 0)):
                self.wrong((self.rows[:number] + [row] + self.rows[number + 1:], self.sums))

    def test_a_row_parted(self):
        self.wrong(([(0, 1), (1, 2), (2, 3), (3, 5)], self.sums))
        self.wrong(([(0, 2), (2, 3), (3, 4), (4, 5)], self.sums))
        self.wrong(([(k, k + 1) for k in range(5)], self.sums))

    def test_rows_put_together(self):
        self.wrong(([(0, 3), (3, 5)], self.sums))
        self.wrong(([(0, 5)], self.sums))

    def test_an_empty_row(self):
        self.wrong(([(0, 2), (2, 3), (3, 3), (3, 5)], self.sums))
        self.wrong(([(0, 2), (2, 3), (3, 5), (5, 5)], self.sums))
        self.wrong(([(0, 0), (0, 3), (3, 5)], self.sums))

    def test_rows_that_end_ahead_of_the_last_unit(self):
        self.wrong(([(0, 2), (2, 3), (3, 4)], self.sums))
        self.wrong(([(0, 1), (1, 2), (2, 3)], self.sums))
        self.wrong(([(0, 2), (2, 3)], self.sums))

    def test_rows_that_begin_behind_the_first_unit(self):
        self.wrong(([(1, 2), (2, 3), (3, 5)], self.sums))
        self.wrong(([(2, 3), (3, 5)], self.sums))

    def test_empty_lists(self):
        self.wrong(([], []))
        self.wrong(([], self.sums))
        self.wrong((self.rows, []))
        self.wrong((self.rows, [[]]))
        self.wrong(([], [[]]))
        self.wrong((self.rows, [[] for one in self.sums]))

    def test_another_width_narrow_or_units(self):
        paper = (self.rows, self.sums)
        for width in (0, 7, 9, 4000):
            self.assertIs(self.holds(self.units, width, self.narrow, paper), False)
        for narrow in ((0, 0), (0, 2), (2, 2), (1, 1), (1, 3), (9, 2), (1, 90)):
            self.assertIs(self.holds(self.units, self.width, narrow, paper), False)
        self.assertIs(self.holds(self.units[:-1], self.width, self.narrow, paper), False)
        self.assertIs(self.holds(self.units + units_of(1), self.width, self.narrow, paper), False)
        self.assertIs(self.holds(units_of(3, 2, 9, 1, 5, blank=1), self.width, self.narrow, paper), True)
        self.assertIs(self.holds(units_of(3, 2, 9, 2, 4, blank=1), self.width, self.narrow, paper), False)


class OtherPapers(Holding):
    def paper(self, units, width, narrow):
        self.units, self.width, self.narrow = units, width, narrow
        told = broken(units, width, narrow)
        self.right(told)
        return told

    def test_another_number_of_rows_with_the_same_least_sum(self):
        rows, sums = self.paper(units_of(25, 40, 1002), 1002, (2, 1))
        self.assertEqual([one[-1] for one in sums], [None, None, 1876097, 1876097])
        self.wrong(([(0, 1), (1, 2), (2, 3)], sums))
        rows, sums = self.paper(units_of(1, 1, 631, 710), 710, (3, 2))
        self.wrong(([(0, 1), (1, 2), (2, 3), (3, 4)], sums))
        rows, sums = self.paper(units_of(5, 0, 0), 5, (0, 0))
        self.wrong(([(0, 1), (1, 3)], sums))
        self.wrong(([(0, 2), (2, 3)], sums))

    def test_another_beginning_with_which_the_sums_are_met(self):
        rows, sums = self.paper(units_of(1, 1, 1, 2), 2, (0, 0))
        self.assertEqual(rows, [(0, 1), (1, 3), (3, 4)])
        self.wrong(([(0, 2), (2, 3), (3, 4)], sums))

    def test_fewer_rows_with_a_greater_sum(self):
        rows, sums = self.paper(units_of(1, 1, 9), 9, (2, 5))
        self.assertEqual(rows, [(0, 1), (1, 2), (2, 3)])
        self.wrong(([(0, 2), (2, 3)], sums))

    def test_one_unit(self):
        self.paper(units_of(4), 4, (0, 0))
        self.right(([(0, 1)], [[0, None], [None, 0]]))
        for paper in (([], [[0, None], [None, 0]]), ([(0, 1)], [[0, None], [None, 1]]), ([(0, 1)], [[0, None], [0, 0]]),
                      ([(0, 1)], [[0, None], [None, None]]), ([(0, 1)], [[0, 0], [None, 0]]), ([(0, 1)], [[0, None]]),
                      ([(0, 1)], [[None, None], [None, 0]]), ([(0, 1)], [[None, 0]]), ([(1, 0)], [[0, None], [None, 0]]),
                      ([(0, 1)], [[1, None], [None, 1]])):
            self.wrong(paper)
        self.paper(units_of(4), 1, (0, 0))
        self.wrong(([(0, 1)], [[0, None], [None, 0]]))
        self.wrong(([(0, 1)], [[0, None], [None, None]]))
        self.right(([(0, 1)], [[0, None], [None, 1000003]]))

    def test_sixty_units(self):
        rows, sums = self.paper(units_of(*range(1, 61), blank=2), 130, (7, 40))
        sums[30][45] += 1
        self.wrong((rows, sums))
        sums[30][45] -= 1
        self.right((rows, sums))
        sums[60][60] -= 1
        self.wrong((rows, sums))

    def test_any_change(self):
        for seed in range(120):
            chance = random.Random(seed)
            width = chance.randint(0, chance.choice([3, 12, 60]))
            narrow = (chance.choice([0, 1, 2, 9]), chance.choice([0, 1, 5, 40]))
            rows, sums = self.paper(any_units(chance, chance.randint(1, 12)), width, narrow)
            for k in range(15):
                other = (list(rows), [list(one) for one in sums])
                for step in range(chance.choice([1, 1, 2])):
                    if chance.randrange(2) and other[0]:
                        place = chance.randrange(len(other[0]))
                        first, last = other[0][place]
                        other[0][place] = (first + chance.randint(-1, 1), last + chance.randint(-1, 1))
                    else:
                        line = chance.choice(other[1])
                        line[chance.randrange(len(line))] = chance.choice([None, 0, chance.choice(line), 1, 1000000])
                self.assertIs(self.holds(self.units, width, narrow, other), other == (rows, sums), (seed, k))


if __name__ == "__main__":
    unittest.main()
