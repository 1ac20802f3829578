"""Points 6.1 to 6.5: maps from one order to another one."""

import inspect
import unittest
from itertools import product

from helper import all_maps, orders_up_to, raised, rises
from onethrow.errors import BadNumber, UnknownName
from onethrow.maps import (broken_pair, composed, count_maps, extended, image, is_below_map, is_rising_map,
                           maps_within, rising_maps, settled)
from onethrow.orders import Order

ONE = Order(["q"], [])
CHAIN = Order.chain("a", "b")
FALL = Order.chain("b", "a")
FORK = Order.read("x y z; x < y; x < z")
SQUARE = Order.read("t x y z; x < y; x < z; y < t; z < t")
# The ends a and b come ahead of the names between them.
ZIGZAG = Order.read("a b c d; a < c; d < c; d < b")
SOME = orders_up_to(3)[::3] + [Order.crown(2), SQUARE, ZIGZAG, FALL]


class BrokenPairTest(unittest.TestCase):
    def test_the_first_cover(self):
        self.assertEqual(broken_pair(CHAIN, FORK, ("y", "z")), ("a", "b"))
        self.assertIs(broken_pair(CHAIN, FORK, ("x", "z")), None)
        self.assertEqual(broken_pair(SQUARE, CHAIN, ["a", "b", "a", "a"]), ("x", "y"))
        self.assertEqual(broken_pair(SQUARE, CHAIN, ["a", "b", "b", "b"]), ("y", "t"))
        self.assertEqual(broken_pair(SQUARE, CHAIN, ["a", "a", "a", "b"]), ("z", "t"))
        # The covers are b under a and c under b: c under a is none.
        self.assertEqual(broken_pair(Order.chain("c", "b", "a"), CHAIN, ["a", "a", "b"]), ("c", "b"))
        self.assertEqual(broken_pair(Order.chain("c", "b", "a"), CHAIN, ["a", "b", "b"]), ("b", "a"))

    def test_one_name(self):
        self.assertIs(broken_pair(ONE, ONE, ["q"]), None)
        self.assertIs(broken_pair(CHAIN, ONE, ("q", "q")), None)

    def test_all_maps_of_some_orders(self):
        for beginnings, standings in product(SOME, repeat=2):
            for names in all_maps(beginnings, standings):
                found = broken_pair(beginnings, standings, names)
                self.assertIs(found is None, rises(beginnings, standings, names))
                self.assertIs(is_rising_map(beginnings, standings, names), found is None)
                if found is not None:
                    goals = dict(zip(beginnings.names, names))
                    broken = [(low, high) for low, high in beginnings.covers()
                              if not standings.below(goals[low], goals[high])]
                    self.assertEqual(found, broken[0])

    def test_lists_of_another_length(self):
        for names in ([], ["x"], ["x", "x", "x"], ["q", "q", "q"]):
            self.assertEqual(raised(BadNumber, broken_pair, CHAIN, FORK, names), {"n": len(names)})

    def test_strings_that_are_no_standings(self):
        self.assertEqual(raised(UnknownName, broken_pair, CHAIN, FORK, ["z", "b"]), {"name": "b"})
        self.assertEqual(raised(UnknownName, broken_pair, CHAIN, FORK, ("q", "p")), {"name": "q"})
        self.assertEqual(raised(UnknownName, broken_pair, SQUARE, CHAIN, ["b", "a", "a", ""]), {"name": ""})


class IsRisingMapTest(unittest.TestCase):
    def test_lists_and_tuples(self):
        for names in (["x", "y"], ("x", "y")):
            self.assertIs(is_rising_map(CHAIN, FORK, names), True)
        for names in (["y", "x"], ("z", "y")):
            self.assertIs(is_rising_map(CHAIN, FORK, names), False)

    def test_what_is_no_map(self):
        for names in ([], ["x"], ["x", "x", "x"], ["x", "q"], ["a", "b"], ("", ""), ["Q", "x"], ["x", "y", "q"]):
            self.assertIs(is_rising_map(CHAIN, FORK, names), False)

    def test_the_list_stays_as_it_is(self):
        names = ["y", "x"]
        is_rising_map(CHAIN, FORK, names)
        broken_pair(CHAIN, FORK, names)
        self.assertEqual(names, ["y", "x"])


class RisingMapsTest(unittest.TestCase):
    def test_all_rising_maps_in_ascending_order(self):
        for beginnings, standings in product(SOME, repeat=2):
            wanted = [names for names in all_maps(beginnings, standings) if rises(beginnings, standings, names)]
            self.assertEqual(list(rising_maps(beginnings, standings)), wanted)
            self.assertEqual(count_maps(beginnings, standings), len(wanted))

    def test_it_is_a_generator(self):
        self.assertTrue(inspect.isgeneratorfunction(rising_maps))
        maps = rising_maps(CHAIN, FORK)
        self.assertEqual([next(maps), next(maps)], [("x", "x"), ("x", "y")])
        self.assertEqual(list(maps), [("x", "z"), ("y", "y"), ("z", "z")])
        self.assertEqual(list(maps), [])

    def test_one_name(self):
        self.assertEqual(list(rising_maps(ONE, FORK)), [("x",), ("y",), ("z",)])
        self.assertEqual(list(rising_maps(FORK, ONE)), [("q", "q", "q")])

    def test_both_ends_decide_what_is_between_them(self):
        apart = Order(["x", "y"], [])
        self.assertEqual(list(rising_maps(ZIGZAG, apart)), [("x",) * 4, ("y",) * 4])
        self.assertEqual(list(maps_within(ZIGZAG, apart, {"a": "x", "b": "y", "c": "xy", "d": "xy"})), [])
        self.assertIs(extended(ZIGZAG, apart, {"a": "x", "b": "y"}), None)

    def test_orders_of_five_names(self):
        five = "edcba"
        self.assertEqual(count_maps(Order(list(five), []), Order(list(five), [])), 3125)
        self.assertEqual(count_maps(Order.chain(*five), Order.chain(*five)), 126)
        self.assertEqual(count_maps(Order.chain(*five), Order(list(five), [])), 5)
        self.assertIs(type(count_maps(ONE, ONE)), int)

    def test_maps_within_choices(self):
        for beginnings, standings in product(SOME[::2], repeat=2):
            choices = {name: standings.names[at % 2::2] or standings.names for at, name in enumerate(beginnings)}
            wanted = [names for names in all_maps(beginnings, standings) if rises(beginnings, standings, names)
                      and all(goal in choices[name] for name, goal in zip(beginnings, names))]
            self.assertEqual(list(maps_within(beginnings, standings, choices)), wanted)
        self.assertEqual(list(maps_within(CHAIN, FORK, {"a": ["y"], "b": ["z"]})), [])
        self.assertEqual(list(maps_within(CHAIN, FORK, {"a": [], "b": ["z"]})), [])


class ExtendedTest(unittest.TestCase):
    def test_the_first_one(self):
        self.assertEqual(extended(FORK, FORK, {"z": "y"}), ("x", "x", "y"))
        self.assertEqual(extended(FORK, FORK, {"x": "z"}), ("z", "z", "z"))
        self.assertEqual(extended(FORK, FORK, {"x": "z", "y": "z", "z": "z"}), ("z", "z", "z"))
        self.assertEqual(extended(CHAIN, FALL, {}), ("a", "a"))
        self.assertEqual(extended(CHAIN, FALL, {"a": "b"}), ("b", "a"))

    def test_there_is_none(self):
        self.assertIs(extended(FORK, FORK, {"y": "z", "x": "y"}), None)
        self.assertIs(extended(CHAIN, FORK, {"a": "y", "b": "x"}), None)
        self.assertIs(extended(Order.crown(2), Order.crown(2), {"a1": "a1", "a2": "b1", "b1": "b2"}), None)

    def test_no_two_told_names_are_to_blame(self):
        # Two names below the middle and two above it leave nothing for the middle.
        web = Order.read("a1 a2 b1 b2 m; a1 < m; a2 < m; m < b1; m < b2")
        told = {"a1": "a1", "a2": "a2", "b1": "b1", "b2": "b2"}
        self.assertIs(extended(web, Order.crown(2), told), None)
        self.assertEqual(extended(web, web, told), ("a1", "a2", "b1", "b2", "m"))
        self.assertEqual(extended(web, Order.crown(2), {"a1": "a1", "a2": "a2", "b1": "b1"}),
                         ("a1", "a2", "b1", "b1", "b1"))

    def test_all_that_can_be_told_of_some_orders(self):
        for beginnings, standings in product(SOME, repeat=2):
            maps = [names for names in all_maps(beginnings, standings) if rises(beginnings, standings, names)]
            for goals in product((None, *standings.names), repeat=len(beginnings)):
                told = {name: goal for name, goal in zip(beginnings, goals) if goal is not None}
                fitting = [names for names in maps if all(goal in (None, name) for goal, name in zip(goals, names))]
                self.assertEqual(extended(beginnings, standings, told), fitting[0] if fitting else None)

    def test_orders_of_eight_names(self):
        chain, crown = Order.chain(*"abcdefgh"), Order.crown(4)
        self.assertEqual(extended(chain, chain, {"d": "c", "f": "h"}), ("a", "a", "a", "c", "c", "h", "h", "h"))
        self.assertEqual(extended(crown, chain, {"b4": "b"}), ("a",) * 7 + ("b",))
        told = {"a1": "a2", "b3": "b4"}
        found = extended(crown, crown, told)
        self.assertTrue(is_rising_map(crown, crown, found))
        self.assertEqual([found[0], found[6]], ["a2", "b4"])

    def test_keys_that_are_no_beginnings(self):
        self.assertEqual(raised(UnknownName, extended, CHAIN, FORK, {"z": "x", "b": "q", "c": "x"}), {"name": "c"})
        self.assertEqual(raised(UnknownName, extended, CHAIN, FORK, {"": "x"}), {"name": ""})

    def test_values_that_are_no_standings(self):
        self.assertEqual(raised(UnknownName, extended, CHAIN, FORK, {"b": "p", "a": "q"}), {"name": "q"})
        self.assertEqual(raised(UnknownName, extended, CHAIN, FORK, {"b": "p", "a": "x"}), {"name": "p"})
        self.assertEqual(raised(UnknownName, extended, FORK, CHAIN, {"z": "x", "y": "z", "x": "b"}), {"name": "z"})

    def test_the_dictionary_stays_as_it_is(self):
        told = {"z": "y", "x": "x"}
        extended(FORK, FORK, told)
        self.assertEqual(list(told.items()), [("z", "y"), ("x", "x")])


class ComposedTest(unittest.TestCase):
    def test_composed(self):
        self.assertEqual(composed(FORK, ("x", "y"), ("x", "x", "z")), ("x", "x"))
        self.assertEqual(composed(FORK, ["z", "z", "x", "y"], ["a", "b", "c"]), ("c", "c", "a", "b"))
        self.assertIs(type(composed(ONE, ["q"], ["q"])), tuple)

    def test_rising_maps_give_rising_maps(self):
        for first, second in product(rising_maps(CHAIN, FORK), rising_maps(FORK, SQUARE)):
            both = composed(FORK, first, second)
            self.assertEqual(both, tuple(second["xyz".index(name)] for name in first))
            self.assertIs(is_rising_map(CHAIN, SQUARE, both), True)

    def test_a_second_map_of_another_length(self):
        for second in ([], ["a", "b"], ["a"] * 4):
            self.assertEqual(raised(BadNumber, composed, FORK, ("q", "x"), second), {"n": len(second)})

    def test_strings_that_are_not_in_the_middle(self):
        self.assertEqual(raised(UnknownName, composed, FORK, ("x", "q", "p"), ("a", "b", "c")), {"name": "q"})
        self.assertEqual(raised(UnknownName, composed, CHAIN, ("x",), ("a", "b")), {"name": "x"})


class IsBelowMapTest(unittest.TestCase):
    def test_is_below_map(self):
        self.assertIs(is_below_map(FORK, ("x", "y"), ("z", "y")), True)
        self.assertIs(is_below_map(FORK, ("x", "y"), ("z", "z")), False)
        self.assertIs(is_below_map(FORK, ("y", "x"), ("x", "x")), False)
        self.assertIs(is_below_map(FORK, ["x", "x", "z"], ("x", "x", "z")), True)
        self.assertIs(is_below_map(FORK, [], []), True)

    def test_unlike_lengths(self):
        for first, second in [(["x"], []), ([], ["x"]), (["q", "x"], ["x"]), (["x"], ["x", "q", "x"])]:
            self.assertEqual(raised(BadNumber, is_below_map, FORK, first, second), {"n": len(second)})

    def test_strings_that_are_no_standings(self):
        for first, second, name in [
            (("x", "q"), ("x", "p"), "q"), (("x", "x"), ("p", "x"), "p"), (("x", "q"), ("p", "x"), "p"),
            (("y", "x"), ("x", "q"), "q"), (("y", "r"), ("z", "x"), "r"),
        ]:
            self.assertEqual(raised(UnknownName, is_below_map, FORK, first, second), {"name": name})


class ImageTest(unittest.TestCase):
    def test_image(self):
        self.assertEqual(image(("z", "x", "z")), ["x", "z"])
        self.assertEqual(image(["b2", "b10", "b"]), ["b", "b10", "b2"])
        self.assertEqual(image(("q",)), ["q"])
        self.assertEqual(image([]), [])

    def test_the_list_is_new(self):
        names = ["a", "b"]
        image(names).append("c")
        image(names).clear()
        self.assertEqual(names, ["a", "b"])
        self.assertEqual(image(names), ["a", "b"])


class SettledTest(unittest.TestCase):
    def test_settled(self):
        self.assertEqual(settled(FORK, ("x", "x", "z")), ["x", "z"])
        self.assertEqual(settled(FORK, ["y", "z", "x"]), [])
        self.assertEqual(settled(FORK, ["x", "y", "z"]), ["x", "y", "z"])
        self.assertEqual(settled(ONE, ["q"]), ["q"])

    def test_lists_that_are_no_maps(self):
        for names in ([], ["x", "y"], ["q"] * 4):
            self.assertEqual(raised(BadNumber, settled, FORK, names), {"n": len(names)})
        self.assertEqual(raised(UnknownName, settled, FORK, ["x", "q", "p"]), {"name": "q"})

    def test_the_list_is_new(self):
        names = ["x", "x", "z"]
        settled(FORK, names).clear()
        self.assertEqual(names, ["x", "x", "z"])
        self.assertEqual(settled(FORK, names), ["x", "z"])


if __name__ == "__main__":
    unittest.main()
