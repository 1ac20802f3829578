"""Points 13.1 to 13.4: shapes of orders."""

import inspect
import unittest
from itertools import permutations
from math import factorial

from helper import orders_up_to, raised
from onethrow.errors import BadName, BadNumber, DuplicateName, UnknownName
from onethrow.orders import Order
from onethrow.pictures import is_forest
from onethrow.shapes import count_orders, forest_shapes, plain_shape, renamed, same_shape, shapes, symmetries

ONE = Order(["q"], [])
FORK = Order.read("x y z; x < y; x < z")
SQUARE = Order.read("t x y z; x < y; x < z; y < t; z < t")
CUBE = Order.read("a b c d e f g h; a < b; a < c; a < d; b < e; b < f; c < e; c < g; d < f; d < g; e < h; f < h; g < h")
UP_TO_FOUR = orders_up_to(4)
SOME = UP_TO_FOUR[::9] + [FORK, SQUARE, Order.crown(2), Order.chain("d", "c", "b", "a"), Order(list("dbca"), [])]
FIVE = [Order.read(text) for text in (
    "p q r s t; p < q; p < r; q < s; r < s; s < t", "p q r s t; t < q; t < r; s < r; p < q; p < r",
    "p q r s t; p < t", "p q r s t; q < p; q < r; s < r; s < t")]


def all_renamings(first, second):
    """Return all dictionaries that make the second order of the first one."""
    found = []
    for goals in permutations(second.names):
        names = dict(zip(first.names, goals))
        if len(first) == len(second) and all(
                first.below(low, high) == second.below(names[low], names[high]) for low in first for high in first):
            found.append(names)
    return found


class RenamedTest(unittest.TestCase):
    def test_renamed(self):
        self.assertEqual(renamed(FORK, {"x": "q", "y": "p", "z": "r"}), Order.read("p q r; q < p; q < r"))
        self.assertEqual(renamed(FORK, {"x": "y", "y": "x", "z": "z"}), Order.read("x y z; y < x; y < z"))
        self.assertEqual(renamed(FORK, {"x": "x", "y": "y", "z": "z"}), FORK)
        self.assertEqual(renamed(ONE, {"q": "abcd1234"}), Order(["abcd1234"], []))
        chain = renamed(Order.chain("a", "b", "c"), {"a": "c", "b": "a", "c": "b"})
        self.assertEqual(chain, Order.chain("c", "a", "b"))

    def test_a_key_too_many(self):
        names = {"x": "q", "y": "p", "z": "r", "w": "q", "v": "no name"}
        self.assertEqual(renamed(FORK, names), Order.read("p q r; q < p; q < r"))

    def test_keys_that_are_lacking(self):
        for names, lacking in [({}, "x"), ({"x": "q", "z": "r"}, "y"), ({"y": "", "z": ""}, "x"),
                               ({"x": "q", "y": "q", "w": "q"}, "z")]:
            self.assertEqual(raised(UnknownName, renamed, FORK, names), {"name": lacking})

    def test_values_that_are_no_names_or_come_again(self):
        for names, kind, wrong in [
            ({"x": "q", "y": "", "z": "q"}, BadName, ""), ({"x": "q", "y": "Q", "z": "1"}, BadName, "Q"),
            ({"x": "q", "y": "q", "z": "1"}, DuplicateName, "q"), ({"x": "p", "y": "q", "z": "p"}, DuplicateName, "p"),
            ({"z": "no", "y": "no", "x": "abcdefghi"}, BadName, "abcdefghi"),
            ({"x": "a b", "y": "c", "z": "c"}, BadName, "a b"), ({"x": "a", "y": "b", "z": "c "}, BadName, "c "),
        ]:
            self.assertEqual(raised(kind, renamed, FORK, names), {"name": wrong})

    def test_the_dictionary_stays_as_it_is(self):
        names = {"z": "r", "x": "q", "y": "p"}
        renamed(FORK, names)
        self.assertEqual(list(names.items()), [("z", "r"), ("x", "q"), ("y", "p")])


class SameShapeTest(unittest.TestCase):
    def test_the_first_renaming_of_some_orders(self):
        for first in SOME:
            for second in SOME:
                wanted = all_renamings(first, second)
                found = same_shape(first, second)
                self.assertEqual(found, wanted[0] if wanted else None)
                if found is not None:
                    self.assertEqual(list(found), list(first.names))
                    self.assertEqual(renamed(first, found), second)

    def test_known_ones(self):
        self.assertEqual(same_shape(FORK, FORK), {"x": "x", "y": "y", "z": "z"})
        self.assertEqual(same_shape(FORK, Order.read("p q r; r < p; r < q")), {"x": "r", "y": "p", "z": "q"})
        self.assertIs(same_shape(FORK, FORK.turned()), None)
        self.assertIs(same_shape(FORK, ONE), None)
        self.assertIs(same_shape(ONE, FORK), None)
        self.assertEqual(same_shape(Order.crown(3), Order.crown(3).turned()),
                         {"a1": "b1", "a2": "b2", "a3": "b3", "b1": "a2", "b2": "a3", "b3": "a1"})

    def test_equally_many_names_above_and_below_each_are_not_enough(self):
        # Two crowns of two, and a crown of four: each name has two names beside it.
        pairs = [(low, high) for part in ("abcd", "efgh") for low in part[:2] for high in part[2:]]
        two = Order(list("abcdefgh"), pairs)
        self.assertIs(same_shape(two, Order.crown(4)), None)
        self.assertIs(same_shape(Order.crown(4), two), None)
        self.assertEqual(renamed(two, same_shape(two, two.turned())), two.turned())

    def test_symmetries(self):
        for order in SOME + FIVE:
            self.assertEqual(symmetries(order), len(all_renamings(order, order)))
        for order, many in [(ONE, 1), (FORK, 2), (SQUARE, 2), (Order.crown(2), 4), (Order.crown(3), 6), (CUBE, 6),
                            (Order.crown(4), 8), (Order.chain(*"abcdefgh"), 1), (Order(list("abcdefgh"), []), 40320)]:
            found = symmetries(order)
            self.assertEqual([type(found), found], [int, many])

    def test_the_dictionary_is_new(self):
        same_shape(FORK, FORK).clear()
        self.assertEqual(same_shape(FORK, FORK), {"x": "x", "y": "y", "z": "z"})


class PlainShapeTest(unittest.TestCase):
    def test_the_first_text(self):
        for order in SOME + FIVE:
            letters = "abcde"[:len(order)]
            texts = [str(renamed(order, dict(zip(order, way)))) for way in permutations(letters)]
            self.assertEqual(str(plain_shape(order)), min(texts))

    def test_known_ones(self):
        self.assertEqual(str(plain_shape(ONE)), "a")
        self.assertEqual(str(plain_shape(FORK)), "a b c; a < b; a < c")
        self.assertEqual(str(plain_shape(FORK.turned())), "a b c; a < b; c < b")
        self.assertEqual(str(plain_shape(SQUARE)), "a b c d; a < b; a < c; b < d; c < d")
        self.assertEqual(str(plain_shape(Order.crown(2))), "a b c d; a < b; a < c; d < b; d < c")
        self.assertEqual(str(plain_shape(Order.chain("z", "y", "x"))), "a b c; a < b; b < c")
        self.assertIs(type(plain_shape(SQUARE)), Order)

    def test_equal_exactly_for_the_same_shape(self):
        for first in SOME:
            for second in SOME:
                self.assertIs(plain_shape(first) == plain_shape(second), same_shape(first, second) is not None)

    def test_more_than_five_names(self):
        for order in (Order(list("abcdef"), []), Order.crown(3), CUBE):
            self.assertEqual(raised(BadNumber, plain_shape, order), {"n": len(order)})
        self.assertEqual(plain_shape(Order.chain(*"vwxyz")), Order.chain(*"abcde"))


class ShapesTest(unittest.TestCase):
    def test_all_shapes(self):
        for size, count in [(1, 1), (2, 2), (3, 5), (4, 16), (5, 63)]:
            found = list(shapes(size))
            texts = [str(order) for order in found]
            self.assertEqual(texts, sorted(set(texts)))
            self.assertEqual(len(found), count)
            self.assertTrue(all(len(order) == size and plain_shape(order) == order for order in found))

    def test_every_order_has_one(self):
        for size in (1, 2, 3, 4):
            texts = {str(order) for order in shapes(size)}
            self.assertEqual({str(plain_shape(order)) for order in UP_TO_FOUR if len(order) == size}, texts)

    def test_it_is_a_generator(self):
        self.assertTrue(inspect.isgeneratorfunction(shapes))
        found = shapes(3)
        self.assertEqual([str(next(found)), str(next(found))], ["a b c", "a b c; a < b"])
        self.assertEqual(len(list(found)), 3)

    def test_forest_shapes(self):
        for size, count in [(1, 1), (2, 2), (3, 5), (4, 14), (5, 44)]:
            found = forest_shapes(size)
            self.assertEqual([type(found), len(found)], [list, count])
            self.assertEqual(found, [order for order in shapes(size) if is_forest(order)])

    def test_count_orders(self):
        for size, count in [(1, 1), (2, 3), (3, 19), (4, 219), (5, 4231)]:
            found = count_orders(size)
            self.assertEqual([type(found), found], [int, count])
            self.assertEqual(sum(factorial(size) // symmetries(order) for order in shapes(size)), count)

    def test_sizes_that_there_are_not(self):
        for size in (0, 6, -1, 100):
            for call in (forest_shapes, count_orders, lambda many: next(shapes(many)), lambda many: list(shapes(many))):
                self.assertEqual(raised(BadNumber, call, size), {"n": size})

    def test_the_list_is_new(self):
        forest_shapes(2).clear()
        self.assertEqual([str(order) for order in forest_shapes(2)], ["a b", "a b; a < b"])


if __name__ == "__main__":
    unittest.main()
