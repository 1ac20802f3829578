"""Points 9.1 to 9.5: pictures of orders, with their rings, diamonds and crowns."""

import unittest
from itertools import combinations, permutations

from helper import all_maps, orders_up_to, raised, rises
from onethrow.errors import NoRing
from onethrow.orders import Order
from onethrow.pictures import crown, diamond, is_crown, is_forest, is_retraction, is_ring, lows, retraction, ring

ONE = Order(["q"], [])
FORK = Order.read("x y z; x < y; x < z")
SQUARE = Order.read("t x y z; x < y; x < z; y < t; z < t")
WEB = Order.read("a1 a2 b1 b2 m; a1 < m; m < b1; a1 < b2; a2 < b1; a2 < b2")
# Six names with one low at the bottom, and four names with two lows, which share a and x.
BALLOON = Order.read("a b c d q s w x; x < a; a < b; b < w; x < c; c < d; d < w; q < a; x < s; q < s")
# A ring of six and one of five, both with one low.
LOOPS = Order.read("a b c d e f; a < b; b < c; c < d; a < e; e < d; a < f; f < c")
CUBE = Order.read("o x y z xy xz yz xyz; o < x; o < y; o < z; x < xy; x < xz; y < xy; y < yz; z < xz; z < yz; "
                  "xy < xyz; xz < xyz; yz < xyz")
# All lows below all highs.
BOWS = Order(list("abcdefgh"), [(low, high) for low in "aceg" for high in "bdfh"])
UP_TO_FIVE = orders_up_to(5)
# Orders of six to eight names, with rings of several kinds.
LARGE = [
    BALLOON, LOOPS, CUBE, BOWS, Order.crown(3), Order.crown(4), Order.crown(3).turned(), BALLOON.turned(),
    Order.read("a b c d e f g h; a < e; a < f; b < f; b < g; c < g; c < h; d < h; d < e; e < h"),
    Order.read("a b c d e f g; g < e; e < a; a < c; g < f; f < b; b < d; d < c"),
    Order.read("h g f e d c b; h < b; h < c; g < c; g < d; f < d; f < b; e < h; e < g"),
    Order.read("p q r s t u; p < s; p < t; q < s; q < t; q < u; r < t; r < u"),
    Order.read("a b c d m n r s; a < m; m < c; a < d; b < n; n < c; b < d; r < a; c < s"),
]
ALL = UP_TO_FIVE + LARGE


def are_joined(order, one, other):
    return (one, other) in order.covers() or (other, one) in order.covers()


def all_rings(order):
    """Return all rings, each once, written as the document says."""
    found = []
    joined = {frozenset(pair) for pair in order.covers()}
    for size in range(4, len(order) + 1):
        for chosen in combinations(order.names, size):
            for rest in permutations(chosen[1:]):
                names = (chosen[0], *rest)
                if rest[0] < rest[-1] and all({names[at - 1], names[at]} in joined for at in range(size)):
                    found.append(names)
    return found


def lows_of(order, names):
    size = len(names)
    return sorted(names[at] for at in range(size)
                  if order.below(names[at], names[at - 1]) and order.below(names[at], names[(at + 1) % size]))


def all_diamonds(order):
    return sorted((x, y, z, w) for x, y, z, w in permutations(order.names, 4)
                  if y < z and order.below(x, y) and order.below(x, z) and order.below(y, w) and order.below(z, w)
                  and not order.below(y, z) and not order.below(z, y))


class RingTest(unittest.TestCase):
    def test_is_ring(self):
        for names in (["t", "y", "x", "z"], ["y", "x", "z", "t"], ("z", "x", "y", "t"), ["x", "z", "t", "y"]):
            self.assertIs(is_ring(SQUARE, names), True)
        self.assertIs(is_ring(WEB, ["a1", "b2", "a2", "b1", "m"]), True)
        self.assertIs(is_ring(Order.crown(3), ["a1", "b1", "a2", "b2", "a3", "b3"]), True)

    def test_is_no_ring(self):
        for names in ([], ["x"], ["x", "y"], ["x", "y", "t"], ["x", "y", "z", "t"], ["t", "x", "y", "z"],
                      ["t", "y", "x", "z", "t"], ["t", "y", "x", "z", "t", "y", "x", "z"], ["x", "y", "x", "y"],
                      ["x", "y", "x", "z"], ["t", "y", "x", "q"], ["", "y", "x", "z"], ["T", "y", "x", "z"]):
            self.assertIs(is_ring(SQUARE, names), False)
        # A name may be below another one without being joined to it.
        self.assertIs(is_ring(WEB, ["a1", "b2", "a2", "b1"]), False)
        self.assertIs(is_ring(Order.chain("a", "b", "c", "d"), ["a", "b", "c", "d"]), False)
        self.assertIs(is_ring(Order.crown(3), ["a1", "b1", "a2", "b2"]), False)

    def test_each_list_of_names_of_some_orders(self):
        for order in (SQUARE, Order.crown(2), WEB, FORK):
            rings = set(all_rings(order))
            for size in range(len(order) + 1):
                for names in permutations(order.names, size):
                    turns = {names[at:] + names[:at] for at in range(size)}
                    turns = turns | {way[:1] + way[:0:-1] for way in turns}
                    self.assertIs(is_ring(order, list(names)), not turns.isdisjoint(rings))

    def test_lows(self):
        self.assertEqual(lows(SQUARE, ["t", "y", "x", "z"]), ["x"])
        self.assertEqual(lows(WEB, ("b1", "m", "a1", "b2", "a2")), ["a1", "a2"])
        turned = ["a3", "b3", "a4", "b4", "a1", "b1", "a2", "b2"]
        self.assertEqual(lows(Order.crown(4), turned), ["a1", "a2", "a3", "a4"])
        for order in ALL:
            for names in all_rings(order):
                self.assertEqual(lows(order, list(names)), lows_of(order, names))
                self.assertEqual(lows(order, names[2:] + names[:2]), lows_of(order, names))

    def test_ring_of_all_orders(self):
        for order in ALL:
            rings = all_rings(order)
            wanted = min(rings, key=lambda names: (len(lows_of(order, names)), len(names), names), default=None)
            found = ring(order)
            self.assertEqual(found, None if wanted is None else list(wanted), str(order))
            self.assertIs(is_forest(order), wanted is None)
            if found is not None:
                self.assertIs(is_ring(order, found), True)

    def test_first_the_lows_then_the_length_then_the_names(self):
        # The ring of four names has two lows, the one of six only one.
        self.assertIs(is_ring(BALLOON, ["a", "x", "s", "q"]), True)
        self.assertEqual(ring(BALLOON), ["a", "b", "w", "d", "c", "x"])
        self.assertEqual(ring(LOOPS), ["a", "b", "c", "f"])
        self.assertEqual(ring(BOWS), ["a", "b", "c", "d"])
        self.assertEqual(ring(CUBE), ["o", "x", "xy", "y"])
        self.assertEqual(ring(Order.crown(4)), ["a1", "b1", "a2", "b2", "a3", "b3", "a4", "b4"])

    def test_no_ring(self):
        for order in (ONE, FORK, Order.chain(*"abcdefgh"), Order(list("abcdefgh"), []), FORK.turned(),
                      Order.read("a b c d; a < c; b < c; b < d"), Order.read("a b c; a < b; b < c; a < c")):
            self.assertIs(ring(order), None)
            self.assertIs(is_forest(order), True)
        for order in (SQUARE, WEB, Order.crown(2), Order.crown(3), Order.crown(4), CUBE):
            self.assertIs(is_forest(order), False)

    def test_the_lists_are_new(self):
        names = ["t", "y", "x", "z"]
        lows(SQUARE, names).clear()
        is_ring(SQUARE, names)
        self.assertEqual(names, ["t", "y", "x", "z"])
        ring(SQUARE).clear()
        self.assertEqual(ring(SQUARE), names)


class DiamondTest(unittest.TestCase):
    def test_diamonds_of_all_orders(self):
        for order in ALL:
            found = all_diamonds(order)
            self.assertEqual(diamond(order), found[0] if found else None, str(order))

    def test_the_first_one(self):
        self.assertEqual(diamond(SQUARE), ("x", "y", "z", "t"))
        self.assertEqual(diamond(CUBE), ("o", "x", "y", "xy"))
        # Its names need not be covers, and the middle ones are ordered as strings are.
        tall = Order.read("a b c d e f; f < e; e < b; e < c; b < d; c < d; d < a")
        self.assertEqual(diamond(tall), ("e", "b", "c", "a"))
        self.assertEqual(type(diamond(tall)), tuple)

    def test_no_diamond(self):
        for order in (ONE, FORK, Order.chain(*"abcde"), Order.crown(2), Order.crown(4), WEB, BOWS):
            self.assertIs(diamond(order), None)

    def test_two_ways_up_to_one_name(self):
        # x and z are comparable, so there is no diamond with both in the middle.
        self.assertIs(diamond(Order.read("o x z t; o < x; x < z; z < t; o < z")), None)


class CrownTest(unittest.TestCase):
    def test_is_crown(self):
        for size in (2, 3, 4):
            order = Order.crown(size)
            names = [f"{letter}{k}" for k in range(1, size + 1) for letter in "ab"]
            for at in range(0, 2 * size, 2):
                turned = names[at:] + names[:at]
                back = turned[:1] + turned[:0:-1]
                self.assertIs(is_crown(order, turned), True)
                self.assertIs(is_crown(order, tuple(back)), True)
                self.assertIs(is_crown(order, turned[1:] + turned[:1]), False)
                self.assertIs(is_crown(order.turned(), turned), False)
                self.assertIs(is_crown(order.turned(), turned[1:] + turned[:1]), True)
        self.assertIs(is_crown(WEB, ["a1", "b1", "a2", "b2"]), True)
        self.assertIs(is_crown(BOWS, ["c", "b", "g", "h"]), True)

    def test_is_no_crown(self):
        crowns = Order.crown(3)
        for names in ([], ["a1", "b1"], ["a1", "b1", "a2"], ["a1", "b1", "a2", "b2"], ["a1", "b1", "a2", "b2", "a3"],
                      ["a1", "b2", "a2", "b1", "a3", "b3"], ["a1", "b1", "a2", "b2", "a3", "b3", "a1", "b1"],
                      ["a1", "b1", "a2", "b2", "a3", "c"], ["a1", "b1", "a3", "b2", "a2", "b3"], ["", "", "", ""],
                      ["a1", "b1", "a2", "b2", "a3", "b3", "a1"]):
            self.assertIs(is_crown(crowns, names), False)
        # All lows are below all highs, so six of the names are no crown.
        self.assertIs(is_crown(BOWS, ["a", "b", "c", "d", "e", "f"]), False)
        self.assertIs(is_crown(SQUARE, ["x", "y", "z", "t"]), False)
        self.assertIs(is_crown(FORK, ["x", "y", "x", "z"]), False)
        self.assertIs(is_crown(Order.chain("a", "b"), ["a", "b", "a", "b"]), False)
        self.assertIs(is_crown(Order(list("abcd"), []), ["a", "b", "c", "d"]), False)
        # A low below another low, and a high below another high.
        self.assertIs(is_crown(Order.read("a b c d; a < c; c < b; c < d"), ["a", "b", "c", "d"]), False)
        self.assertIs(is_crown(Order.read("a b c d; a < b; c < b; b < d"), ["a", "b", "c", "d"]), False)

    def test_crowns_of_all_orders(self):
        for order in ALL:
            found = crown(order)
            names = ring(order)
            if names is None or all_diamonds(order):
                self.assertIs(found, None)
                continue
            size = len(names)
            turns = [names[at] for at in range(size)
                     if order.below(names[at - 1], names[at]) == order.below(names[(at + 1) % size], names[at])]
            self.assertEqual(found[0], lows_of(order, names)[0])
            self.assertEqual(found[::2], [name for name in found if name in lows_of(order, names)])
            self.assertLess(found[1], found[-1])
            at = turns.index(found[0])
            turned = turns[at:] + turns[:at]
            self.assertIn(found, (turned, turned[:1] + turned[:0:-1]))
            self.assertIs(is_crown(order, found), True)

    def test_the_second_name_is_the_lesser_high(self):
        self.assertEqual(crown(WEB), ["a1", "b1", "a2", "b2"])
        self.assertEqual(crown(Order.crown(4)), ["a1", "b1", "a2", "b2", "a3", "b3", "a4", "b4"])
        # The names of the crown of three, with the highs named the other way round.
        other = Order.read("p q r x y z; p < z; p < x; q < x; q < y; r < y; r < z")
        self.assertEqual(crown(other), ["p", "x", "q", "y", "r", "z"])
        other = Order.read("p q r x y z; p < y; p < x; q < z; q < y; r < x; r < z")
        self.assertEqual(crown(other), ["p", "x", "r", "z", "q", "y"])
        # The ring begins with a high, and has names that are neither low nor high.
        other = Order.read("a m n p q z; p < m; m < a; q < n; n < a; p < z; q < z")
        self.assertEqual(ring(other), ["a", "m", "p", "z", "q", "n"])
        self.assertEqual(crown(other), ["p", "a", "q", "z"])

    def test_the_list_is_new(self):
        crown(WEB).clear()
        self.assertEqual(crown(WEB), ["a1", "b1", "a2", "b2"])


class RetractionTest(unittest.TestCase):
    def test_is_retraction_of_all_maps_of_some_orders(self):
        for order in (FORK, Order.chain("a", "b"), Order.crown(2), SQUARE, ONE):
            for names in [chosen for size in range(1, len(order) + 1) for chosen in combinations(order.names, size)]:
                for goals in all_maps(order, order):
                    taken = dict(zip(order.names, goals))
                    wanted = (rises(order, order, goals) and set(goals) <= set(names)
                              and all(taken[name] == name for name in names))
                    self.assertIs(is_retraction(order, taken, list(names)), wanted)
                    self.assertIs(is_retraction(order, taken, names[::-1]), wanted)

    def test_other_keys_and_values(self):
        good = {"x": "x", "y": "y", "z": "y"}
        self.assertIs(is_retraction(FORK, good, ["x", "y"]), True)
        self.assertIs(is_retraction(FORK, {"z": "y", "y": "y", "x": "x"}, ("y", "x")), True)
        for taken in ({}, {"x": "x", "y": "y"}, {**good, "q": "x"}, {"x": "x", "y": "y", "q": "y"}, {**good, "z": "q"},
                      {**good, "z": "z"}, {**good, "x": "y"}, {**good, "y": "x"}, {**good, "z": ""}):
            self.assertIs(is_retraction(FORK, taken, ["x", "y"]), False)
        for names in ([], ["x"], ["x", "y", "z"], ["x", "y", "q"], ["q"]):
            self.assertIs(is_retraction(FORK, good, names), False)

    def test_onto_names_that_are_not_in_the_order(self):
        self.assertIs(is_retraction(FORK, {"x": "q", "y": "q", "z": "q"}, ["q"]), False)
        self.assertIs(is_retraction(FORK, {"x": "q", "y": "q", "z": "q", "q": "q"}, ["q"]), False)
        self.assertIs(is_retraction(FORK, {"x": "x", "y": "x", "z": "x", "q": "q"}, ["x", "q"]), False)

    def test_retractions_of_all_orders(self):
        for order in ALL:
            if is_forest(order):
                self.assertEqual(raised(NoRing, retraction, order), {})
                continue
            names = list(diamond(order) or crown(order))
            taken = retraction(order)
            self.assertEqual([type(taken), sorted(taken)], [dict, list(order.names)])
            self.assertEqual(sorted(set(taken.values())), sorted(names))
            self.assertTrue(all(taken[name] == name for name in names))
            self.assertTrue(rises(order, order, [taken[name] for name in order.names]))
            self.assertIs(is_retraction(order, taken, names), True)

    def test_forests(self):
        for order in (ONE, FORK, Order.chain("a", "b", "c"), Order(list("abcdefgh"), [])):
            self.assertEqual(raised(NoRing, retraction, order), {})

    def test_what_is_passed_and_returned(self):
        taken = {"x": "x", "y": "y", "z": "y"}
        names = ["y", "x"]
        is_retraction(FORK, taken, names)
        self.assertEqual([list(taken.items()), names], [[("x", "x"), ("y", "y"), ("z", "y")], ["y", "x"]])
        told = dict(retraction(WEB))
        retraction(WEB).clear()
        self.assertEqual(retraction(WEB), told)


if __name__ == "__main__":
    unittest.main()
