import itertools
import random
import unittest

from leafpress.grids import grid_highs, grid_places
from tests.helpers import Untouched


class Places(Untouched):
    def places(self, columns, *cells):
        told = self.ask(grid_places, columns, list(cells))
        self.assertEqual([type(told), len(told)], [list, len(cells)])
        for place in told:
            self.assertEqual([type(place)] + [type(one) for one in place], [tuple, int, int, int, int])
        return told


class GridPlaces(Places):
    def test_no_cell(self):
        self.assertEqual(self.places(3), [])

    def test_row_by_row(self):
        self.assertEqual(self.places(1, (1, 1), (1, 1)), [(0, 0, 1, 1), (1, 0, 1, 1)])
        self.assertEqual(self.places(3, *[(1, 1)] * 7), [
            (0, 0, 1, 1), (0, 1, 1, 1), (0, 2, 1, 1), (1, 0, 1, 1), (1, 1, 1, 1), (1, 2, 1, 1), (2, 0, 1, 1),
        ])
        self.assertEqual(self.places(6, *[(1, 1)] * 6), [(0, column, 1, 1) for column in range(6)])

    def test_cells_that_do_not_fit_the_row_go_on_to_the_next_one(self):
        self.assertEqual(self.places(3, (2, 1), (2, 1)), [(0, 0, 2, 1), (1, 0, 2, 1)])
        self.assertEqual(self.places(3, (1, 1), (1, 1), (2, 1)), [(0, 0, 1, 1), (0, 1, 1, 1), (1, 0, 2, 1)])
        self.assertEqual(self.places(3, (1, 1), (3, 1), (2, 1)), [(0, 0, 1, 1), (1, 0, 3, 1), (0, 1, 2, 1)])

    def test_the_last_columns_are_taken_too(self):
        self.assertEqual(self.places(4, (1, 1), (3, 1)), [(0, 0, 1, 1), (0, 1, 3, 1)])
        self.assertEqual(self.places(4, (2, 1), (2, 1)), [(0, 0, 2, 1), (0, 2, 2, 1)])

    def test_holes_are_filled_from_the_beginning(self):
        self.assertEqual(self.places(3, (2, 1), (2, 1), (1, 1), (1, 1), (1, 1)), [
            (0, 0, 2, 1), (1, 0, 2, 1), (0, 2, 1, 1), (1, 2, 1, 1), (2, 0, 1, 1),
        ])
        self.assertEqual(self.places(4, (3, 1), (3, 1), (3, 1), (2, 1), (1, 1), (1, 1)), [
            (0, 0, 3, 1), (1, 0, 3, 1), (2, 0, 3, 1), (3, 0, 2, 1), (0, 3, 1, 1), (1, 3, 1, 1),
        ])

    def test_spans_beyond_the_columns(self):
        for span in (2, 3, 6):
            self.assertEqual(self.places(2, (span, 1), (1, 1), (span, 2)), [(0, 0, 2, 1), (1, 0, 1, 1), (2, 0, 2, 2)])
        self.assertEqual(self.places(1, (6, 1), (6, 4)), [(0, 0, 1, 1), (1, 0, 1, 4)])
        self.assertEqual(self.places(6, (6, 1), (6, 1)), [(0, 0, 6, 1), (1, 0, 6, 1)])

    def test_deep_cells(self):
        self.assertEqual(self.places(2, (1, 2), (1, 1), (1, 1), (1, 1)), [
            (0, 0, 1, 2), (0, 1, 1, 1), (1, 1, 1, 1), (2, 0, 1, 1),
        ])
        self.assertEqual(self.places(3, (1, 4), (2, 2), (2, 1), (1, 3)), [
            (0, 0, 1, 4), (0, 1, 2, 2), (2, 1, 2, 1), (3, 1, 1, 3),
        ])

    def test_a_deep_cell_needs_all_its_rows(self):
        told = self.places(3, (1, 1), (3, 1), (1, 1), (2, 2), (1, 1))
        self.assertEqual(told, [(0, 0, 1, 1), (1, 0, 3, 1), (0, 1, 1, 1), (2, 0, 2, 2), (0, 2, 1, 1)])
        self.assertEqual(self.places(2, (1, 1), (2, 1), (1, 2)), [(0, 0, 1, 1), (1, 0, 2, 1), (2, 0, 1, 2)])

    def test_a_wide_cell_between_deep_ones(self):
        self.assertEqual(self.places(3, (1, 1), (1, 3), (1, 1), (2, 1), (1, 1)), [
            (0, 0, 1, 1), (0, 1, 1, 3), (0, 2, 1, 1), (3, 0, 2, 1), (1, 0, 1, 1),
        ])

    def test_many(self):
        told = self.places(6, *[(4, 4)] * 59)
        self.assertEqual(told, [(4 * k, 0, 4, 4) for k in range(59)])
        self.assertEqual(self.places(6, *([(4, 4)] * 29 + [(2, 4)] * 30))[29:],
                         [(4 * k, 4, 2, 4) for k in range(29)] + [(116, 0, 2, 4)])

    def test_by_name(self):
        self.assertEqual(grid_places(columns=2, cells=[(1, 1)]), [(0, 0, 1, 1)])

    def test_any_cells(self):
        for seed in range(400):
            chance = random.Random(seed)
            columns = chance.randint(1, 6)
            cells = [(chance.randint(1, chance.choice([2, 6])), chance.randint(1, chance.choice([1, 2, 4])))
                     for k in range(chance.choice([1, 3, 8, 20]))]
            sheet = [["."] * columns for row in range(90)]
            right = []
            for span, deep in cells:
                span = min(span, columns)
                row, column = next(
                    (row, column) for row, column in itertools.product(range(86), range(columns - span + 1))
                    if all(sheet[row + down][column:column + span] == ["."] * span for down in range(deep)))
                right.append((row, column, span, deep))
                for down in range(deep):
                    sheet[row + down][column:column + span] = ["x"] * span
            self.assertEqual(self.places(columns, *cells), right, (columns, cells))


class GridHighs(Untouched):
    def highs(self, places, highs):
        told = self.ask(grid_highs, places, highs)
        self.assertEqual([type(told)] + [type(one) for one in told], [list] + [int] * len(told))
        return told

    def test_no_cell(self):
        self.assertEqual(self.highs([], []), [])

    def test_one_cell(self):
        self.assertEqual(self.highs([(0, 0, 1, 1)], [30]), [30])
        self.assertEqual(self.highs([(0, 0, 6, 1)], [0]), [0])

    def test_the_highest_of_each_row(self):
        places = [(0, 0, 1, 1), (0, 1, 1, 1), (1, 0, 1, 1), (1, 1, 1, 1), (2, 0, 1, 1)]
        self.assertEqual(self.highs(places, [5, 9, 40, 7, 0]), [9, 40, 0])
        self.assertEqual(self.highs(places, [9, 5, 7, 40, 1]), [9, 40, 1])

    def test_cells_over_several_rows(self):
        places = [(0, 0, 1, 2), (0, 1, 1, 1), (1, 1, 1, 1)]
        self.assertEqual(self.highs(places, [50, 20, 10]), [20, 30])
        self.assertEqual(self.highs(places, [30, 20, 10]), [20, 10])
        self.assertEqual(self.highs(places, [31, 20, 10]), [20, 11])
        self.assertEqual(self.highs(places, [5, 20, 10]), [20, 10])

    def test_cells_over_several_rows_that_begin_below(self):
        places = [(0, 0, 2, 1), (1, 0, 1, 3), (1, 1, 1, 1), (2, 1, 1, 1), (3, 1, 1, 1)]
        self.assertEqual(self.highs(places, [100, 50, 10, 20, 3]), [100, 10, 20, 20])
        self.assertEqual(self.highs(places, [100, 29, 10, 20, 3]), [100, 10, 20, 3])

    def test_rows_in_which_no_cell_ends(self):
        self.assertEqual(self.highs([(0, 0, 1, 4)], [70]), [0, 0, 0, 70])
        self.assertEqual(self.highs([(0, 0, 1, 3), (0, 1, 1, 3)], [70, 20]), [0, 0, 70])
        self.assertEqual(self.highs([(0, 0, 1, 3), (0, 1, 1, 1), (1, 1, 1, 2)], [70, 20, 60]), [20, 0, 60])
        self.assertEqual(self.highs([(0, 0, 1, 3), (0, 1, 1, 1), (1, 1, 1, 2)], [90, 20, 60]), [20, 0, 70])

    def test_rows_ahead_make_later_ones_less_high(self):
        places = [(0, 0, 1, 2), (0, 1, 1, 3), (2, 0, 1, 2), (3, 1, 1, 1)]
        self.assertEqual(self.highs(places, [40, 100, 70, 5]), [0, 40, 60, 10])
        self.assertEqual(self.highs(places, [40, 30, 70, 5]), [0, 40, 0, 70])

    def test_the_last_rows_may_be_those_of_an_earlier_cell(self):
        self.assertEqual(self.highs([(0, 0, 1, 4), (0, 1, 1, 1), (1, 1, 1, 1)], [9, 2, 3]), [2, 3, 0, 4])

    def test_by_name(self):
        self.assertEqual(grid_highs(places=[(0, 0, 1, 1)], highs=[3]), [3])

    def test_what_is_told_is_its_own(self):
        highs = [3]
        told = grid_highs([(0, 0, 1, 1)], highs)
        told.append(4)
        self.assertEqual(highs, [3])

    def test_any_cells(self):
        for seed in range(300):
            chance = random.Random(seed)
            cells = [(chance.randint(1, 3), chance.randint(1, 4)) for k in range(chance.choice([1, 4, 12]))]
            places = grid_places(chance.randint(1, 4), cells)
            highs = [chance.choice([0, chance.randint(0, 20), chance.randint(0, 99)]) for cell in cells]
            told = self.highs(places, highs)
            tops = list(itertools.accumulate(told, initial=0))
            ends = [row + deep for row, column, span, deep in places]
            self.assertEqual(len(told), max(ends))
            for at in range(len(told)):
                bottoms = [tops[place[0]] + high for place, high, end in zip(places, highs, ends) if end == at + 1]
                self.assertEqual(tops[at + 1], max([tops[at]] + bottoms), (seed, at))


if __name__ == "__main__":
    unittest.main()
