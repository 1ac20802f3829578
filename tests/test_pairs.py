"""Points 4.1 to 4.4: two chances in an order, and their pair tables."""

import unittest
from itertools import permutations, product

from helper import fraction, orders_up_to, raised
from onethrow.chances import Chance
from onethrow.errors import UnknownName
from onethrow.orders import Order
from onethrow.pairs import barring, is_pair_table, lower, pair_table
from onethrow.ratios import Ratio

HUGE = 10 ** 5000
HALF, THIRD, ONE = Ratio(1, 2), Ratio(1, 3), Ratio(1, 1)
FORK = Order.read("x y z; x < y; x < z")
CHAIN = Order.chain("x", "y", "z")
FUNCTIONS = (lower, barring, pair_table, lambda order, low, high: is_pair_table(order, low, high, []))


def chances_of(order, units):
    """Return all chances of the names of an order with weights that add up to so many units."""
    found = []
    for weights in product(range(units + 1), repeat=len(order)):
        if sum(weights) == units:
            found.append(Chance(dict(zip(order.names, weights))))
    return found


def units_of(chance, units):
    """Return a list in which each name comes as often as its share tells."""
    return [name for name in chance for _ in range(int(fraction(chance.share(name)) * units))]


def can_climb(order, low, high, units):
    """Tell if the units of low can each go up to a unit of high, found by trying."""
    lows, highs = units_of(low, units), units_of(high, units)
    return any(all(map(order.below, lows, chosen)) for chosen in permutations(highs))


def is_right(order, low, high, rows):
    """Tell if some rows are a pair table in the form in which pair_table returns them."""
    pairs = [(first, second) for first, second, _ in rows]
    sums = {(side, name): 0 for side in (0, 1) for name in order}
    for first, second, share in rows:
        sums[(0, first)] += fraction(share)
        sums[(1, second)] += fraction(share)
    return (
        pairs == sorted(set(pairs))
        and all(order.below(*pair) for pair in pairs)
        and all(fraction(share) > 0 for _, _, share in rows)
        and all(sums[(0, name)] == fraction(low.share(name)) for name in order)
        and all(sums[(1, name)] == fraction(high.share(name)) for name in order)
    )


class LowerTest(unittest.TestCase):
    def test_an_order_of_one_name(self):
        order, sure = Order(["q"], []), Chance.sure("q")
        self.assertIs(lower(order, sure, sure), True)
        self.assertIs(barring(order, sure, sure), None)
        self.assertEqual(pair_table(order, sure, sure), [("q", "q", ONE)])

    def test_up_and_down_a_chain(self):
        order = Order.chain("b", "a")
        self.assertIs(lower(order, Chance({"a": 1, "b": 3}), Chance({"a": 1, "b": 2})), True)
        self.assertIs(lower(order, Chance({"a": 1, "b": 2}), Chance({"a": 1, "b": 3})), False)
        self.assertEqual(barring(order, Chance({"a": 1, "b": 2}), Chance({"a": 1, "b": 3})), ("a",))

    def test_names_that_are_not_comparable(self):
        order = Order(["x", "y"], [])
        self.assertIs(lower(order, Chance.sure("x"), Chance.sure("y")), False)
        self.assertEqual(barring(order, Chance.sure("y"), Chance.sure("x")), ("y",))
        self.assertIs(lower(order, Chance({"x": 1, "y": 2}), Chance({"y": 4, "x": 2})), True)

    def test_shares_of_zero(self):
        low, high = Chance({"x": 1, "y": 0, "z": 0}), Chance({"x": 0, "y": 0, "z": 5})
        self.assertIs(lower(FORK, low, high), True)
        self.assertIs(lower(FORK, high, low), False)

    def test_shares_that_are_hardly_different(self):
        order = Order.chain("x", "y")
        low, high = Chance({"x": HUGE, "y": HUGE}), Chance({"x": HUGE, "y": HUGE + 1})
        self.assertIs(lower(order, low, high), True)
        self.assertIs(lower(order, high, low), False)
        self.assertTrue(is_right(order, low, high, pair_table(order, low, high)))

    def test_barring_is_the_first_one(self):
        # Both of z and y alone, and all sets with them but the whole, have a greater mass by low.
        self.assertEqual(barring(FORK, Chance({"y": 1, "z": 1}), Chance.sure("x")), ("y",))
        order = Order(["a", "b", "c"], [("c", "a")])
        self.assertEqual(barring(order, Chance.sure("c"), Chance.sure("b")), ("a", "c"))
        self.assertEqual(barring(order, Chance({"a": 1, "b": 1}), Chance.sure("c")), ("a",))
        self.assertEqual(barring(CHAIN, Chance({"y": 1, "x": 1}), Chance({"x": 2, "z": 1})), ("y", "z"))

    def test_a_union_that_bars_where_no_single_name_does(self):
        order = Order.read("a1 a2 b1 b2 c; a1 < b1; a1 < b2; a2 < b1; a2 < b2")
        low, high = Chance({"b1": 1, "b2": 1, "a1": 1}), Chance({"b1": 1, "b2": 1, "a2": 1})
        self.assertEqual(barring(order, low, high), ("a1", "b1", "b2"))
        self.assertIs(pair_table(order, low, high), None)

    def test_all_chances_of_small_orders(self):
        for order in orders_up_to(3):
            chances = chances_of(order, 3)
            for low, high in product(chances, repeat=2):
                barred = [names for names in order.ups() if fraction(low.mass(names)) > fraction(high.mass(names))]
                self.assertEqual(barring(order, low, high), barred[0] if barred else None)
                self.assertIs(lower(order, low, high), not barred)

    def test_a_chance_is_as_low_as_itself(self):
        for order in orders_up_to(3):
            for chance in chances_of(order, 4):
                self.assertIs(lower(order, chance, chance), True)
                self.assertEqual(pair_table(order, chance, chance),
                                 [(name, name, chance.share(name)) for name in chance])


class PairTableTest(unittest.TestCase):
    def test_there_is_one_exactly_if_all_units_can_climb(self):
        for order in orders_up_to(3):
            chances = chances_of(order, 4)
            for low, high in product(chances, repeat=2):
                rows = pair_table(order, low, high)
                self.assertIs(rows is not None, can_climb(order, low, high, 4))
                self.assertIs(lower(order, low, high), rows is not None)
                if rows is not None:
                    self.assertIs(type(rows), list)
                    self.assertTrue(is_right(order, low, high, rows), (str(order), str(low), str(high)))

    def test_larger_orders(self):
        for order, low, high in [
            (Order.crown(2), Chance({"a1": 2, "a2": 1, "b1": 1}), Chance({"a2": 1, "b1": 2, "b2": 1})),
            (Order.crown(3), Chance({"a1": 1, "a2": 1, "a3": 1}), Chance({"b1": 1, "b2": 1, "b3": 1})),
            (Order.crown(3), Chance({"a1": 3, "a2": 1, "a3": 2}), Chance({"b1": 2, "b2": 1, "b3": 3})),
            (Order.crown(4), Chance({"a1": 1, "a2": 2, "a3": 3, "a4": 4}), Chance({"a4": 2, "b1": 3, "b2": 2, "b3": 3})),
            (Order.chain(*"hgfedcba"), Chance.sure("h"), Chance(dict.fromkeys("abcdefgh", 1))),
            (Order.chain(*"abcdefgh"), Chance({"a": 3, "b": 4, "e": 5}), Chance({"b": 2, "c": 4, "g": 1, "h": 6})),
            (Order.read("t x y z; x < y; x < z; y < t; z < t"), Chance({"x": 3, "y": 1, "z": 1}),
             Chance({"x": 1, "y": 1, "z": 1, "t": 2})),
        ]:
            rows = pair_table(order, low, high)
            self.assertTrue(is_right(order, low, high, rows))
            self.assertIs(is_pair_table(order, low, high, rows), True)
            self.assertIs(pair_table(order, high, low), None)

    def test_shares_with_unlike_denominators(self):
        low, high = Chance({"x": 5, "y": 1, "z": 1}), Chance({"x": 3, "y": 4, "z": 4})
        rows = pair_table(FORK, low, high)
        self.assertTrue(is_right(FORK, low, high, rows))

    def test_what_a_first_pair_takes_does_not_lack_later(self):
        # x could go to y, but then y, which can only stay, would find no place.
        low, high = Chance({"x": 1, "y": 1}), Chance({"y": 1, "z": 1})
        self.assertEqual(pair_table(FORK, low, high), [("x", "z", HALF), ("y", "y", HALF)])
        self.assertTrue(is_right(CHAIN, low, high, pair_table(CHAIN, low, high)))

    def test_a_returned_list_is_new(self):
        low, high = Chance({"x": 1, "y": 1}), Chance({"y": 1, "z": 1})
        pair_table(FORK, low, high).clear()
        self.assertEqual(pair_table(FORK, low, high), [("x", "z", HALF), ("y", "y", HALF)])
        self.assertEqual([str(FORK), str(low), str(high)], ["x y z; x < y; x < z", "x 1 y 1", "y 1 z 1"])


class IsPairTableTest(unittest.TestCase):
    low, high = Chance({"x": 1, "y": 1}), Chance({"y": 1, "z": 1})
    good = [("x", "z", HALF), ("y", "y", HALF)]

    def asked(self, rows):
        return is_pair_table(FORK, self.low, self.high, rows)

    def test_a_pair_table(self):
        self.assertIs(self.asked(self.good), True)
        self.assertIs(self.asked(tuple(self.good[::-1])), True)

    def test_pairs_that_come_repeatedly(self):
        third, sixth = Ratio(1, 3), Ratio(1, 6)
        self.assertIs(self.asked([("x", "z", third), ("y", "y", HALF), ("x", "z", sixth)]), True)
        self.assertIs(self.asked([("x", "z", third), ("y", "y", HALF), ("x", "z", third)]), False)
        self.assertIs(self.asked(self.good + self.good), False)

    def test_sums_that_are_wrong(self):
        for rows in ([], self.good[:1], self.good[1:], [("x", "z", ONE), ("y", "y", ONE)],
                     [("x", "z", HALF), ("y", "y", THIRD)], [("x", "y", HALF), ("y", "y", HALF)],
                     [("x", "z", HALF), ("x", "y", HALF)], [("x", "x", HALF), ("y", "y", HALF)]):
            self.assertIs(self.asked(rows), False)

    def test_a_wrong_sum_on_one_side_alone(self):
        low, high = Chance.sure("x"), Chance({"y": 1, "z": 1})
        self.assertIs(is_pair_table(FORK, low, high, [("x", "y", HALF), ("x", "z", HALF)]), True)
        self.assertIs(is_pair_table(FORK, low, high, [("x", "y", Ratio(1, 4)), ("x", "z", Ratio(3, 4))]), False)
        low, high = Chance({"x": 1, "y": 1}), Chance.sure("z")
        self.assertIs(is_pair_table(CHAIN, low, high, [("x", "z", HALF), ("y", "z", HALF)]), True)
        self.assertIs(is_pair_table(CHAIN, low, high, [("x", "z", Ratio(1, 4)), ("y", "z", Ratio(3, 4))]), False)

    def test_pairs_that_fall(self):
        low, high = Chance({"y": 1, "z": 1}), Chance({"x": 1, "y": 1})
        self.assertIs(is_pair_table(FORK, low, high, [("y", "y", HALF), ("z", "x", HALF)]), False)
        order = Order(["x", "y"], [])
        even = Chance({"x": 1, "y": 1})
        self.assertIs(is_pair_table(order, even, even, [("x", "y", HALF), ("y", "x", HALF)]), False)

    def test_strings_that_are_not_in_the_order(self):
        for row in [("q", "x", HALF), ("x", "q", HALF), ("", "A b", HALF), ("Q", "Q", ONE)]:
            self.assertIs(self.asked(self.good + [row]), False)
            self.assertIs(self.asked([row] + self.good), False)
            self.assertIs(self.asked([row]), False)

    def test_shares_of_zero_or_below(self):
        zero = Ratio(0, 1)
        self.assertIs(self.asked(self.good + [("x", "x", zero)]), False)
        self.assertIs(self.asked([("x", "y", zero)] + self.good), False)
        self.assertIs(self.asked([("x", "z", ONE), ("x", "z", -HALF), ("y", "y", HALF)]), False)
        self.assertIs(self.asked([("q", "q", zero)] + self.good), False)
        self.assertIs(self.asked([("q", "q", -HALF)] + self.good), False)

    def test_what_is_passed_stays_as_it_is(self):
        rows = list(self.good)
        self.asked(rows)
        self.assertEqual(rows, self.good)


class UnknownTest(unittest.TestCase):
    def test_names_of_low_and_then_of_high(self):
        inside = Chance({"x": 1, "z": 2})
        for function in FUNCTIONS:
            first, second = Chance({"q": 1, "x": 1, "p": 1}), Chance({"o": 1, "z": 1})
            self.assertEqual(raised(UnknownName, function, FORK, first, second), {"name": "p"})
            self.assertEqual(raised(UnknownName, function, FORK, first, inside), {"name": "p"})
            self.assertEqual(raised(UnknownName, function, FORK, inside, second), {"name": "o"})
            self.assertEqual(raised(UnknownName, function, FORK, inside, Chance({"zz": 1, "y1": 1})), {"name": "y1"})

    def test_names_without_a_share_are_none(self):
        low, high = Chance({"x": 1, "q": 0}), Chance({"a": 0, "z": 1})
        self.assertIs(lower(FORK, low, high), True)
        self.assertEqual(pair_table(FORK, low, high), [("x", "z", ONE)])
        self.assertIs(is_pair_table(FORK, low, high, [("x", "z", ONE)]), True)

    def test_errors_come_ahead_of_what_the_rows_say(self):
        unknown = Chance.sure("q")
        for rows in ([], [("q", "q", ONE)], [("x", "x", -ONE)]):
            self.assertEqual(raised(UnknownName, is_pair_table, FORK, unknown, unknown, rows), {"name": "q"})


if __name__ == "__main__":
    unittest.main()
