"""Points 7.1 to 7.4: packings and prices."""

import unittest
from fractions import Fraction
from itertools import combinations, product

from helper import fraction, raised, some_numbers
from onethrow.errors import BadNumber
from onethrow.packing import cost, is_packing, is_pricing, packed, sum_of
from onethrow.ratios import Ratio

ZERO, HALF, ONE, TWO = Ratio(0, 1), Ratio(1, 2), Ratio(1, 1), Ratio(2, 1)
HUGE = 10 ** 400
TRIANGLE = [[0, 1], [1, 2], [0, 2]]


def ratios(text):
    return [Ratio.read(word) for word in text.split()]


class PackedTest(unittest.TestCase):
    def solve(self, things, limits):
        """Return the sum of a packing and a pricing, which are looked at without the program's own functions."""
        answer = packed(things, limits)
        self.assertIs(type(answer), tuple)
        weights, prices = answer
        self.assertEqual([type(weights), type(prices)], [list, list])
        self.assertEqual([len(weights), len(prices)], [len(things), len(limits)])
        self.assertEqual({type(ratio) for ratio in weights + prices} - {Ratio}, set())
        filled = [fraction(weight) for weight in weights]
        paid = [fraction(price) for price in prices]
        for number in filled + paid:
            self.assertGreaterEqual(number, 0)
        for room, limit in enumerate(limits):
            self.assertLessEqual(sum(weight for weight, rooms in zip(filled, things) if room in rooms), fraction(limit))
        for rooms in things:
            self.assertGreaterEqual(sum(paid[room] for room in rooms), 1)
        self.assertEqual(sum(filled), sum(price * fraction(limit) for price, limit in zip(paid, limits)))
        return sum(filled)

    def test_ordinary_ones(self):
        for things, limits, wanted in [
            (TRIANGLE, "1 1 1", "3/2"), ([[0]], "5/7", "5/7"), ([[0, 1]], "1/2 1/3", "1/3"),
            ([[0], [0], [0]], "2", "2"), ([[0], [1], [0, 1]], "1/2 1/3", "5/6"), ([[0, 1], [1, 2]], "1 1 1", "1"),
            ([[0, 1], [1, 2]], "1 3 1", "2"), ([[2, 0], [1]], "1/6 1/5 1", "11/30"),
            ([[0, 1], [1, 2], [2, 3], [3, 4], [4, 0]], "1 1 1 1 1", "5/2"),
            ([[0, 1, 2], [0, 3, 4], [0, 5, 6], [1, 3, 5], [1, 4, 6], [2, 3, 6], [2, 4, 5]], "1 1 1 1 1 1 1", "7/3"),
        ]:
            with self.subTest(things=things):
                self.assertEqual(self.solve(things, ratios(limits)), Fraction(wanted))

    def test_no_things(self):
        self.assertEqual(packed([], []), ([], []))
        weights, prices = packed([], ratios("1 1/2 0"))
        self.assertEqual(weights, [])
        self.assertEqual(self.solve([], ratios("1 1/2 0")), 0)
        self.assertEqual(cost(ratios("1 1/2 0"), prices), ZERO)

    def test_rooms_that_no_thing_is_in(self):
        self.assertEqual(self.solve([[1]], ratios("3 1/2 0 7")), Fraction(1, 2))

    def test_limits_of_zero(self):
        self.assertEqual(self.solve(TRIANGLE, ratios("0 0 0")), 0)
        self.assertEqual(self.solve(TRIANGLE, ratios("0 1 1")), 1)
        self.assertEqual(self.solve([[0, 1], [1], [0]], ratios("0 2")), 2)

    def test_things_that_are_alike(self):
        self.assertEqual(self.solve([[0, 1]] * 5 + [[1, 0]] * 5, ratios("1 2")), 1)

    def test_a_first_thing_that_is_left_out_in_the_end(self):
        for rooms in ([0, 1, 2], [1, 2, 0], [2, 0, 1]):
            for first, second in combinations(rooms, 2):
                self.assertEqual(self.solve([rooms, [first], [second]], ratios("1 1 1")), 2)

    def test_tuples_instead_of_lists(self):
        self.assertEqual(self.solve(((0, 1), (1, 2), (0, 2)), tuple(ratios("1 1 1"))), Fraction(3, 2))

    def test_limits_of_any_size(self):
        limits = [Ratio(HUGE, 3), Ratio(1, HUGE), Ratio(HUGE + 1, HUGE)]
        self.assertEqual(self.solve([[0, 1], [0, 2], [2]], limits), Fraction(1, HUGE) + Fraction(HUGE + 1, HUGE))

    def test_all_sets_of_things_in_three_rooms(self):
        kinds = [[0, 1, 2], [0, 1], [1, 2], [2, 0], [0], [1], [2]]
        for count in range(len(kinds) + 1):
            for things in combinations(kinds, count):
                for limits in product(ratios("0 1/2 2"), repeat=3):
                    self.solve(list(things), list(limits))

    def test_many_shapes(self):
        for rooms in (4, 7, 10):
            numbers = some_numbers(rooms * 60, 6)
            things = [[room for room in range(rooms) if numbers[room + rooms * at] < 2] for at in range(40)]
            things = [thing for thing in things if thing]
            for bottom in (1, 2, 7):
                self.solve(things, [Ratio(number, bottom) for number in numbers[-rooms:]])

    def test_the_greatest_sizes(self):
        numbers = some_numbers(300 * 64, 64)
        for most in (1, 5, 20):
            things = [[room for room in range(64) if numbers[64 * at + room] < most] or [at % 64] for at in range(300)]
            self.solve(things, [ONE] * 64)
            self.solve(things, [Ratio(1 + number % 5, 1 + number) for number in numbers[:64]])

    def test_things_without_rooms(self):
        for things, at in [([[]], 0), ([[0], [], [1], []], 1), ([[0], [1], ()], 2)]:
            self.assertEqual(raised(BadNumber, packed, things, [ONE, ONE]), {"n": at})
        self.assertEqual(raised(BadNumber, packed, [[]], []), {"n": 0})

    def test_what_is_passed_stays_as_it_is(self):
        things, limits = [[0, 1], [1, 2], [0, 2]], [ONE, HALF, TWO]
        weights, prices = packed(things, limits)
        is_packing(things, limits, weights)
        is_pricing(things, 3, prices)
        self.assertEqual(things, TRIANGLE)
        self.assertEqual(limits, [ONE, HALF, TWO])

    def test_what_is_returned_is_new(self):
        things, limits = [[0, 1], [1, 2], [0, 2]], [ONE, ONE, ONE]
        first = packed(things, limits)
        told = [str(ratio) for ratio in first[0] + first[1]]
        first[0].clear()
        first[1].append(ONE)
        second = packed(things, limits)
        self.assertEqual([str(ratio) for ratio in second[0] + second[1]], told)


class IsPackingTest(unittest.TestCase):
    def test_packings(self):
        limits = [ONE, ONE, ONE]
        for weights in ("1/2 1/2 1/2", "1 0 0", "0 0 0", "1/3 2/3 0"):
            self.assertIs(is_packing(TRIANGLE, limits, ratios(weights)), True)
            self.assertIs(is_packing(TRIANGLE, limits, tuple(ratios(weights))), True)
        self.assertIs(is_packing([[0], [0]], [ZERO], [ZERO, ZERO]), True)
        self.assertIs(is_packing([], [], []), True)
        self.assertIs(is_packing([], [ZERO], []), True)

    def test_too_full_rooms(self):
        for weights in ("1/2 1/2 51/100", "1 0 1/100", "2 0 0", "0 1 1"):
            self.assertIs(is_packing(TRIANGLE, [ONE, ONE, ONE], ratios(weights)), False)
        self.assertIs(is_packing(TRIANGLE, [HALF, ONE, ONE], ratios("1/2 1/2 1/2")), False)
        self.assertIs(is_packing([[1]], [ONE, ZERO], [HALF]), False)

    def test_weights_below_zero(self):
        self.assertIs(is_packing(TRIANGLE, [ONE, ONE, ONE], ratios("1/2 -1/2 1/2")), False)
        self.assertIs(is_packing([[0], [0]], [ONE], ratios("2 -1")), False)

    def test_lists_of_another_length(self):
        for weights in ("", "0 0", "0 0 0 0"):
            self.assertIs(is_packing(TRIANGLE, [ONE, ONE, ONE], ratios(weights)), False)
        self.assertIs(is_packing([], [ONE], [ZERO]), False)


class IsPricingTest(unittest.TestCase):
    def test_pricings(self):
        for prices in ("1/2 1/2 1/2", "1 1 0", "1 1 1", "0 1 5"):
            self.assertIs(is_pricing(TRIANGLE, 3, ratios(prices)), True)
            self.assertIs(is_pricing(TRIANGLE, 3, tuple(ratios(prices))), True)
        self.assertIs(is_pricing([], 0, []), True)
        self.assertIs(is_pricing([], 2, [ZERO, ZERO]), True)

    def test_things_that_are_too_cheap(self):
        for prices in ("1/2 1/2 49/100", "1 0 0", "0 0 0", "0 99/100 5"):
            self.assertIs(is_pricing(TRIANGLE, 3, ratios(prices)), False)

    def test_prices_below_zero(self):
        self.assertIs(is_pricing(TRIANGLE, 3, ratios("2 2 -1")), False)
        self.assertIs(is_pricing([[0]], 2, ratios("1 -1/9")), False)

    def test_lists_of_another_length(self):
        for prices in ("", "1 1", "1 1 1 1"):
            self.assertIs(is_pricing(TRIANGLE, 3, ratios(prices)), False)
        self.assertIs(is_pricing([[0]], 1, ratios("1 1")), False)
        self.assertIs(is_pricing([], 0, [ZERO]), False)
        self.assertIs(is_pricing([], 1, []), False)


class SumTest(unittest.TestCase):
    def test_sum_of(self):
        self.assertEqual(sum_of([]), ZERO)
        self.assertEqual(sum_of(ratios("1/2 1/3 -1/6")), Ratio(2, 3))
        self.assertIs(type(sum_of([])), Ratio)

    def test_cost(self):
        self.assertEqual(cost([], []), ZERO)
        self.assertEqual(cost(ratios("1/2 3 0"), ratios("1/5 1/6 9")), Ratio(3, 5))
        self.assertIs(type(cost([], [])), Ratio)

    def test_no_sum_is_greater_than_a_cost(self):
        weights, prices = [ratios("1 0 0"), ratios("1/2 1/2 1/2"), ratios("0 0 0")], [ratios("1 1 1"), ratios("1 1 0")]
        limits = [ONE, ONE, ONE]
        for some, others in product(weights, prices):
            self.assertIs(cost(limits, others).under(sum_of(some)), False)


if __name__ == "__main__":
    unittest.main()
