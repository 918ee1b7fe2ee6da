"""Point 46: the best hitting tuple."""

import itertools
import random
import unittest

from ringclause.hitting import least_hitting
from tests.samples import HUGE


def slow_hitting(sets, weights):
    """The best of all hitting tuples."""
    places = range(len(weights))
    tuples = [chosen for many in range(len(weights) + 1) for chosen in itertools.combinations(places, many)]
    hitting = [chosen for chosen in tuples if all(set(chosen) & set(positions) for positions in sets)]
    return min(hitting, key=lambda chosen: (sum(weights[at] for at in chosen), len(chosen), chosen), default=None)


class HittingTest(unittest.TestCase):
    def test_example(self):
        self.assertEqual(least_hitting([(0, 1), (1, 2)], (2, 3, 2)), (1,))

    def test_no_sets(self):
        for sets in [[], ()]:
            for weights in [[], (), [1], (3, 2, 1)]:
                self.assertEqual(least_hitting(sets, weights), ())

    def test_an_empty_set_at_any_place(self):
        for empty in [(), []]:
            self.assertIsNone(least_hitting([empty], []))
            self.assertIsNone(least_hitting((empty,), (1, 2)))
            for place in range(4):
                sets = [(0, 1), [1, 2], (2,)]
                sets.insert(place, empty)
                self.assertIsNone(least_hitting(sets, [1, 1, 1]))
                self.assertIsNone(least_hitting(tuple(sets), (5, 6, 7)))

    def test_positions_in_any_order_and_twice(self):
        for first, second in [((0, 2), (1, 2)), ([2, 0, 2], [2, 1]), ((0, 0, 2, 2), (1, 1, 2)), ([2, 2, 0], (2, 2, 1))]:
            self.assertEqual(least_hitting([first, second], [1, 1, 1]), (2,))
            self.assertEqual(least_hitting((first, second), (1, 1, 3)), (0, 1))
        self.assertEqual(least_hitting([(3, 1, 3), (3, 1), [1, 3]], [1, 2, 1, 2]), (1,))

    def test_one_set_and_single_positions(self):
        self.assertEqual(least_hitting([(0, 1, 2)], [3, 1, 2]), (1,))
        self.assertEqual(least_hitting([(2,), (0,), (2,)], [3, 1, 2]), (0, 2))

    def test_the_least_sum(self):
        self.assertEqual(least_hitting([(0, 1), (0, 2), (0, 3)], [4, 1, 1, 1]), (1, 2, 3))
        self.assertEqual(least_hitting([(0, 1), (0, 2), (0, 3)], [2, 1, 1, 1]), (0,))
        for many in range(2, 12):
            star = [(0, other) for other in range(1, many)]
            for weight, best in [(many, tuple(range(1, many))), (many - 1, (0,))]:
                self.assertEqual(least_hitting(star, [weight] + [1] * (many - 1)), best)

    def test_equal_sums_the_fewest_positions(self):
        self.assertEqual(least_hitting([(0, 2), (1, 2)], [1, 1, 2]), (2,))
        self.assertEqual(least_hitting([(0, 3), (1, 3), (2, 3)], [1, 1, 1, 3]), (3,))
        self.assertEqual(least_hitting([(0, 2, 3), (1, 2, 3)], [1, 1, 2, 2]), (2,))

    def test_equal_sums_and_numbers_the_least_tuple(self):
        self.assertEqual(least_hitting([(0, 1, 2)], [1, 1, 1]), (0,))
        self.assertEqual(least_hitting([(2, 1)], [1, 1, 1]), (1,))
        self.assertEqual(least_hitting([(0, 3), (1, 2)], [1, 1, 1, 1]), (0, 1))
        # (0, 3) comes before (1, 2), though its positions have the same sum.
        self.assertEqual(least_hitting([(0, 1), (0, 2), (3, 1), (3, 2)], [1, 1, 1, 1]), (0, 3))
        self.assertEqual(least_hitting([(0, 1), (0, 2), (3, 1), (3, 2)], [1, 2, 2, 3]), (0, 3))

    def test_weights_of_thirty_digits(self):
        big = 10 ** 29
        self.assertEqual(least_hitting([(0, 1), (0, 2)], [2 * big + 1, big, big]), (1, 2))
        self.assertEqual(least_hitting([(0, 1), (0, 2)], [2 * big, big, big]), (0,))
        self.assertEqual(least_hitting([(0, 1), (0, 2)], [2 * big - 1, big, big]), (0,))
        self.assertEqual(least_hitting([(0, 1)], [HUGE + 1, HUGE]), (1,))

    def test_arguments_are_not_changed(self):
        sets, weights = [[2, 0, 2], (1, 0)], [3, 1, 2]
        least_hitting(sets, weights)
        self.assertEqual([sets, weights], [[[2, 0, 2], (1, 0)], [3, 1, 2]])

    def test_against_all_tuples(self):
        chance = random.Random(46)
        for _ in range(700):
            many = chance.randrange(1, 8)
            top = chance.choice([1, 2, 4, 10 ** 30])
            weights = [chance.randint(max(1, top - 3), top) if top > 4 else chance.randint(1, top) for _ in range(many)]
            sets = [[chance.randrange(many) for _ in range(chance.randrange(1, 5))] for _ in range(chance.randrange(9))]
            if chance.random() < 0.05:
                sets.append([])
            self.assertEqual(least_hitting(sets, weights), slow_hitting(sets, weights))

    def test_many_sets(self):
        sets = list(itertools.combinations(range(12), 6))
        self.assertEqual(least_hitting(sets, [1] * 12), tuple(range(7)))
        self.assertEqual(least_hitting(sets, [13 - at for at in range(12)]), tuple(range(5, 12)))
        pairs = [(at, at + 12) for at in range(12)]
        self.assertEqual(least_hitting(pairs, [1] * 24), tuple(range(12)))


if __name__ == "__main__":
    unittest.main()
