import itertools
import random
import unittest
from fractions import Fraction

from leafpress.shares import shares, shares_hold
from tests.helpers import Untouched


def dot_by_dot(width, floors, roofs, weights):
    """Shares once more, each dot given by itself."""
    told = list(floors)
    while sum(told) < width:
        open_ones = [(Fraction(told[k], weights[k]), k) for k in range(len(told)) if told[k] < roofs[k]]
        if not open_ones:
            break
        told[min(open_ones)[1]] += 1
    return told


class Sharing(Untouched):
    def shared(self, width, floors, roofs, weights=None):
        weights = [1] * len(floors) if weights is None else weights
        told = self.ask(shares, width, floors, roofs, weights)
        self.assertEqual([type(told)] + [type(one) for one in told], [list] + [int] * len(floors))
        self.assertIs(self.ask(shares_hold, width, floors, roofs, weights, told), True)
        self.assertTrue(told is not floors and told is not roofs)
        return told


class Shares(Sharing):
    def test_one(self):
        for width, right in ((0, 3), (2, 3), (3, 3), (4, 4), (9, 9), (10, 10), (11, 10), (4000, 10)):
            for weight in (1, 5, 9):
                self.assertEqual(self.shared(width, [3], [10], [weight]), [right])

    def test_none(self):
        self.assertEqual(self.shared(0, [], []), [])
        self.assertEqual(self.shared(7, [], []), [])

    def test_floors_that_are_more_than_the_width(self):
        self.assertEqual(self.shared(0, [1, 2], [9, 9]), [1, 2])
        self.assertEqual(self.shared(10, [3, 5, 4], [10, 10, 10], [1, 9, 2]), [3, 5, 4])
        self.assertEqual(self.shared(4000, [10000, 1], [10000, 10000]), [10000, 1])

    def test_floors_that_are_the_width(self):
        self.assertEqual(self.shared(12, [3, 5, 4], [10, 10, 10], [1, 9, 2]), [3, 5, 4])
        self.assertEqual(self.shared(0, [0, 0], [10, 10]), [0, 0])

    def test_one_dot_more_than_the_floors(self):
        self.assertEqual(self.shared(13, [3, 5, 4], [10, 10, 10]), [4, 5, 4])
        self.assertEqual(self.shared(13, [3, 5, 4], [10, 10, 10], [1, 9, 2]), [3, 6, 4])
        self.assertEqual(self.shared(13, [3, 5, 4], [10, 10, 10], [3, 4, 9]), [3, 5, 5])

    def test_roofs_that_are_less_than_the_width(self):
        self.assertEqual(self.shared(100, [0, 0], [3, 4]), [3, 4])
        self.assertEqual(self.shared(8, [3, 0], [3, 4], [1, 9]), [3, 4])
        self.assertEqual(self.shared(4000, [0, 0, 0], [0, 0, 0]), [0, 0, 0])

    def test_roofs_that_are_the_width(self):
        self.assertEqual(self.shared(7, [0, 0], [3, 4]), [3, 4])

    def test_one_dot_less_than_the_roofs(self):
        self.assertEqual(self.shared(6, [0, 0], [3, 4]), [3, 3])
        self.assertEqual(self.shared(6, [0, 0], [3, 4], [1, 9]), [2, 4])

    def test_even_ones(self):
        self.assertEqual(self.shared(30, [0, 0, 0], [99, 99, 99]), [10, 10, 10])

    def test_ties_go_to_the_first(self):
        self.assertEqual(self.shared(31, [0, 0, 0], [99, 99, 99]), [11, 10, 10])
        self.assertEqual(self.shared(32, [0, 0, 0], [99, 99, 99]), [11, 11, 10])
        self.assertEqual(self.shared(1, [0, 0, 0], [9, 9, 9], [1, 2, 9]), [1, 0, 0])
        self.assertEqual(self.shared(2, [0, 0, 0], [9, 9, 9], [1, 2, 9]), [1, 1, 0])
        self.assertEqual(self.shared(3, [0, 0, 0], [9, 9, 9], [1, 2, 9]), [1, 1, 1])
        self.assertEqual(self.shared(4, [0, 0, 0], [9, 9, 9], [1, 2, 9]), [1, 1, 2])

    def test_ties_between_unlike_weights(self):
        self.assertEqual(self.shared(7, [2, 4], [9, 9], [1, 2]), [3, 4])
        self.assertEqual(self.shared(7, [4, 2], [9, 9], [2, 1]), [5, 2])
        self.assertEqual(self.shared(15, [6, 8], [99, 99], [3, 4]), [7, 8])

    def test_weights(self):
        self.assertEqual(self.shared(60, [0, 0, 0], [99, 99, 99], [1, 2, 3]), [10, 20, 30])
        self.assertEqual(self.shared(1000, [0, 0], [4000, 4000], [1, 9]), [100, 900])
        self.assertEqual(self.shared(4000, [0] * 9, [4000] * 9, list(range(1, 10))),
                         [89, 178, 267, 356, 444, 533, 622, 711, 800])

    def test_weights_with_floors_and_roofs(self):
        self.assertEqual(self.shared(60, [15, 0, 0], [99, 99, 99], [1, 2, 3]), [15, 18, 27])
        self.assertEqual(self.shared(60, [0, 0, 0], [99, 99, 6], [1, 2, 3]), [18, 36, 6])
        self.assertEqual(self.shared(60, [0, 30, 0], [99, 99, 6], [1, 2, 3]), [18, 36, 6])
        self.assertEqual(self.shared(60, [0, 50, 0], [99, 99, 6], [1, 2, 3]), [4, 50, 6])

    def test_floors_that_are_roofs_stay(self):
        self.assertEqual(self.shared(20, [4, 0, 7], [4, 99, 7], [9, 1, 9]), [4, 9, 7])

    def test_a_wide_floor_waits(self):
        self.assertEqual(self.shared(20, [12, 0], [99, 99]), [12, 8])
        self.assertEqual(self.shared(23, [12, 0], [99, 99]), [12, 11])
        self.assertEqual(self.shared(24, [12, 0], [99, 99]), [12, 12])
        self.assertEqual(self.shared(25, [12, 0], [99, 99]), [13, 12])

    def test_many_and_great_ones(self):
        self.assertEqual(self.shared(4000, [0] * 58, [10000] * 58), [69] * 56 + [68] * 2)
        self.assertEqual(self.shared(10 ** 9, [0, 0], [10 ** 9, 10 ** 9], [4, 1]), [8 * 10 ** 8, 2 * 10 ** 8])

    def test_by_name(self):
        self.assertEqual(shares(width=5, floors=[0, 1], roofs=[9, 9], weights=[1, 1]), [3, 2])
        self.assertIs(shares_hold(width=5, floors=[0, 1], roofs=[9, 9], weights=[1, 1], told=[3, 2]), True)

    def test_what_is_told_is_its_own(self):
        for width in (0, 5, 99):
            floors, roofs, weights = [1, 1], [4, 4], [1, 2]
            told = shares(width, floors, roofs, weights)
            told.append(7)
            told[0] = 90
            self.assertEqual((floors, roofs, weights), ([1, 1], [4, 4], [1, 2]))

    def test_dot_by_dot(self):
        for seed in range(1500):
            chance = random.Random(seed)
            many = chance.choice([1, 2, 3, 5, 9])
            great = chance.choice([2, 8, 60])
            floors = [chance.choice([0, chance.randint(0, great)]) for k in range(many)]
            roofs = [floor + chance.choice([0, chance.randint(0, great), 4000]) for floor in floors]
            weights = [chance.randint(1, chance.choice([1, 3, 9])) for k in range(many)]
            width = chance.choice([chance.randint(0, great * many), sum(floors), sum(floors) + 1, 200])
            told = self.shared(width, floors, roofs, weights)
            self.assertEqual(told, dot_by_dot(width, floors, roofs, weights), (width, floors, roofs, weights))

    def test_each_width(self):
        floors, roofs, weights = [0, 7, 3, 0, 2], [40, 9, 60, 11, 2], [2, 9, 5, 7, 3]
        for width in range(140):
            self.assertEqual(self.shared(width, floors, roofs, weights), dot_by_dot(width, floors, roofs, weights))


class SharesHold(Sharing):
    def no(self, width, floors, roofs, weights, told):
        self.assertIs(self.ask(shares_hold, width, floors, roofs, weights, told), False, told)

    def test_below_a_floor_alone(self):
        self.assertEqual(self.shared(3, [2, 0], [5, 5], [1, 9]), [2, 1])
        self.no(3, [2, 0], [5, 5], [1, 9], [1, 2])
        self.no(2, [2, 0], [5, 5], [1, 1], [1, 1])
        self.no(0, [0, 0], [5, 5], [9, 9], [1, -1])
        self.no(1, [2, 1], [5, 5], [1, 1], [1, 0])

    def test_above_a_roof_alone(self):
        self.assertEqual(self.shared(4, [0, 0], [1, 5], [9, 1]), [1, 3])
        self.no(4, [0, 0], [1, 5], [9, 1], [2, 2])
        self.no(7, [0, 0], [1, 5], [1, 1], [2, 5])
        self.no(7, [0, 0], [1, 5], [1, 1], [1, 6])

    def test_less_than_the_width_alone(self):
        for told in ([1, 1], [2, 1], [0, 0], [1, 0]):
            self.no(4, [0, 0], [5, 5], [1, 1], told)
        self.no(12, [0, 0], [5, 5], [1, 1], [5, 4])
        self.no(11, [0, 0], [5, 5], [1, 1], [5, 4])
        self.assertIs(shares_hold(11, [0, 0], [5, 5], [1, 1], [5, 5]), True)
        self.no(4, [1, 1], [5, 5], [1, 1], [1, 1])

    def test_more_than_the_width_alone(self):
        for told in ([2, 2], [2, 1], [5, 5]):
            self.no(2, [0, 0], [5, 5], [1, 1], told)
        self.no(2, [2, 2], [5, 5], [1, 1], [3, 2])
        self.assertIs(shares_hold(2, [2, 2], [5, 5], [1, 1], [2, 2]), True)
        self.no(2, [0, 0], [5, 5], [1, 1], [3, 2])
        self.no(9, [0, 0], [5, 5], [1, 1], [5, 5])

    def test_a_dot_that_went_to_the_wrong_one_alone(self):
        self.assertIs(shares_hold(4, [0, 0], [5, 5], [1, 1], [2, 2]), True)
        for told in ([1, 3], [3, 1], [4, 0], [0, 4]):
            self.no(4, [0, 0], [5, 5], [1, 1], told)

    def test_a_tie_that_went_to_the_wrong_one_alone(self):
        self.assertIs(shares_hold(3, [0, 0], [5, 5], [1, 1], [2, 1]), True)
        self.no(3, [0, 0], [5, 5], [1, 1], [1, 2])
        self.assertIs(shares_hold(1, [0, 0, 0], [5, 5, 5], [1, 2, 9], [1, 0, 0]), True)
        self.no(1, [0, 0, 0], [5, 5, 5], [1, 2, 9], [0, 1, 0])
        self.no(1, [0, 0, 0], [5, 5, 5], [1, 2, 9], [0, 0, 1])
        self.assertIs(shares_hold(7, [2, 4], [9, 9], [1, 2], [3, 4]), True)
        self.no(7, [2, 4], [9, 9], [1, 2], [2, 5])
        self.assertIs(shares_hold(7, [4, 2], [9, 9], [2, 1], [5, 2]), True)
        self.no(7, [4, 2], [9, 9], [2, 1], [4, 3])

    def test_weights_left_out_of_account(self):
        self.assertIs(shares_hold(60, [0, 0, 0], [99, 99, 99], [1, 2, 3], [10, 20, 30]), True)
        for told in ([20, 20, 20], [30, 20, 10], [11, 20, 29], [10, 21, 29], [9, 20, 31], [10, 19, 31]):
            self.no(60, [0, 0, 0], [99, 99, 99], [1, 2, 3], told)

    def test_one_at_its_floor_or_roof_gives_and_takes_nothing(self):
        self.assertIs(shares_hold(20, [12, 0], [99, 99], [1, 1], [12, 8]), True)
        self.assertIs(shares_hold(20, [0, 0], [3, 99], [1, 1], [3, 17]), True)
        self.no(20, [12, 0], [99, 99], [1, 1], [13, 7])
        self.no(20, [0, 0], [3, 99], [1, 1], [2, 18])

    def test_lists_of_another_length(self):
        for told in ([], [2], [2, 2, 0], [0, 2, 2], [2, 2, 2], [4], [2, 2, 0, 0, 0]):
            self.no(4, [0, 0], [5, 5], [1, 1], told)
        self.no(0, [0], [5], [1], [])
        self.no(0, [0], [0], [1], [])
        self.no(0, [], [], [], [0])
        self.no(5, [], [], [], [5])
        self.assertIs(shares_hold(5, [], [], [], []), True)

    def test_great_numbers(self):
        self.no(4, [0, 0], [5, 5], [1, 1], [10 ** 40, 4 - 10 ** 40])
        self.no(4, [0, 0], [5, 5], [1, 1], [10 ** 40, 10 ** 40])

    def test_one_list_alone_holds(self):
        for seed in range(250):
            chance = random.Random(seed)
            many = chance.choice([1, 2, 2, 3])
            floors = [chance.randint(0, 2) for k in range(many)]
            roofs = [floor + chance.randint(0, 3) for floor in floors]
            weights = [chance.randint(1, 4) for k in range(many)]
            width = chance.randint(0, 10)
            held = [list(told) for told in itertools.product(range(-1, 7), repeat=many)
                    if shares_hold(width, floors, roofs, weights, list(told))]
            self.assertEqual(held, [dot_by_dot(width, floors, roofs, weights)], (width, floors, roofs, weights))

    def test_a_dot_moved(self):
        for seed in range(300):
            chance = random.Random(seed)
            many = chance.choice([2, 3, 6])
            floors = [chance.randint(0, 20) for k in range(many)]
            roofs = [floor + chance.randint(0, 90) for floor in floors]
            weights = [chance.randint(1, 9) for k in range(many)]
            width = chance.randint(0, 60 * many)
            told = shares(width, floors, roofs, weights)
            for one, other in itertools.permutations(range(many), 2):
                moved = list(told)
                moved[one] += 1
                self.assertIs(shares_hold(width, floors, roofs, weights, moved), False)
                moved[other] -= 1
                self.assertIs(shares_hold(width, floors, roofs, weights, moved), False)


if __name__ == "__main__":
    unittest.main()
