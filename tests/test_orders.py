"""Points 2.1 to 2.8 and 0.7: orders and names."""

import unittest
from itertools import combinations, product

from helper import raised
from onethrow.errors import BadName, BadNumber, BadText, DuplicateName, Ring, UnknownName
from onethrow.orders import Order

EIGHT = ["a", "b", "c", "d", "e", "f", "g", "h"]
NO_NAMES = ["", "A", "aB", "1a", "0", "abcdefghi", "a b", " a", "a_b", "a-", "_a", "a.", "~", "abcdefgH", "12345678"]


def reached(names, pairs):
    """Return all (low, high), found by walking up from each name."""
    found = set()
    for low in names:
        todo = [low]
        while todo:
            high = todo.pop()
            if (low, high) not in found:
                found.add((low, high))
                todo.extend(other for name, other in pairs if name == high)
    return found


def all_orders(names):
    """Return all orders of some names, told by all their pairs."""
    pairs = [(low, high) for low in names for high in names if low != high]
    found = []
    for chosen in product((False, True), repeat=len(pairs)):
        told = [pair for pair, taken in zip(pairs, chosen) if taken]
        closed = {pair for pair in reached(names, told) if pair[0] != pair[1]}
        if closed == set(told) and not any((high, low) in closed for low, high in closed):
            found.append(Order(names, told))
    return found


SOME = all_orders(["c", "a", "b"]) + [
    Order(EIGHT, []), Order.chain(*reversed(EIGHT)), Order.crown(2), Order.crown(3), Order.crown(4),
    Order.read("t x y z; x < y; x < z; y < t; z < t"), Order(["q"], []),
]


class MadeTest(unittest.TestCase):
    def test_what_follows_from_the_pairs(self):
        names = ["d", "b", "a", "c"]
        for pairs in ([], [("a", "b")], [("a", "b"), ("b", "c")], [("c", "d"), ("b", "c"), ("a", "b")],
                      [("d", "a"), ("d", "b"), ("a", "c"), ("b", "c")], [("d", "c"), ("c", "b"), ("b", "a")]):
            order = Order(names, pairs)
            below = {(low, high) for low in names for high in names if order.below(low, high)}
            self.assertEqual(below, reached(names, pairs))

    def test_pairs_told_twice_and_of_a_name_with_itself(self):
        order = Order(["a", "b"], [("a", "b"), ("a", "a"), ("a", "b"), ("b", "b")])
        self.assertEqual(order.pairs(), [("a", "b")])
        self.assertEqual(order, Order.chain("a", "b"))

    def test_tuples_instead_of_lists(self):
        self.assertEqual(Order(("b", "a"), (("b", "a"),)), Order(["a", "b"], [("b", "a")]))

    def test_the_number_of_names(self):
        self.assertEqual(raised(BadNumber, Order, [], []), {"n": 0})
        self.assertEqual(raised(BadNumber, Order, [], [("a", "b")]), {"n": 0})
        self.assertEqual(raised(BadNumber, Order, EIGHT + ["i"], []), {"n": 9})
        self.assertEqual(raised(BadNumber, Order, ["A"] * 12, [("x", "y")]), {"n": 12})
        self.assertEqual(len(Order(EIGHT, [])), 8)
        self.assertEqual(len(Order(["a"], [])), 1)

    def test_strings_that_are_no_names(self):
        for name in NO_NAMES:
            self.assertEqual(raised(BadName, Order, ["a", name], []), {"name": name})

    def test_strings_that_are_names(self):
        for name in ["a", "z", "a1", "z9z9z9z9", "abcdefgh", "a0000000"]:
            self.assertEqual(Order([name], []).names, (name,))

    def test_letters_and_digits_of_other_scripts_are_none(self):
        for name in ["\u00e9", "a\u00b2", "a\u0661", "\u00aa"]:
            self.assertEqual(raised(BadName, Order, [name], []), {"name": name})

    def test_names_that_come_again(self):
        self.assertEqual(raised(DuplicateName, Order, ["b", "a", "c", "a", "b"], []), {"name": "a"})

    def test_names_are_checked_one_by_one(self):
        self.assertEqual(raised(DuplicateName, Order, ["a", "a", "B"], []), {"name": "a"})
        self.assertEqual(raised(BadName, Order, ["a", "B", "a"], []), {"name": "B"})
        self.assertEqual(raised(BadName, Order, ["B", "B"], []), {"name": "B"})
        self.assertEqual(raised(BadName, Order, ["C", "B"], [("x", "y")]), {"name": "C"})
        self.assertEqual(raised(DuplicateName, Order, ["a", "b", "b"], [("x", "y")]), {"name": "b"})

    def test_names_in_pairs_that_are_unknown(self):
        self.assertEqual(raised(UnknownName, Order, ["a", "b"], [("a", "b"), ("x", "y")]), {"name": "x"})
        self.assertEqual(raised(UnknownName, Order, ["a", "b"], [("a", "y"), ("x", "a")]), {"name": "y"})
        self.assertEqual(raised(UnknownName, Order, ["a", "b"], [("X", "X")]), {"name": "X"})
        self.assertEqual(raised(UnknownName, Order, ["a", "b"], [("a", "b"), ("b", "a"), ("b", "")]), {"name": ""})

    def test_ring(self):
        self.assertEqual(raised(Ring, Order, ["b", "a"], [("a", "b"), ("b", "a")]), {"names": ["a", "b"]})
        pairs = [("a", "c"), ("c", "e"), ("e", "a"), ("b", "a"), ("c", "d")]
        self.assertEqual(raised(Ring, Order, ["e", "d", "c", "b", "a"], pairs), {"names": ["a", "c", "e"]})

    def test_two_rings_are_told_together(self):
        pairs = [("f", "e"), ("e", "f"), ("b", "c"), ("c", "b"), ("a", "b"), ("c", "f"), ("a", "a")]
        self.assertEqual(raised(Ring, Order, ["f", "e", "d", "c", "b", "a"], pairs), {"names": ["b", "c", "e", "f"]})

    def test_lists_are_copied(self):
        names, pairs = ["b", "a"], [("b", "a")]
        order = Order(names, pairs)
        names.append("c")
        pairs.append(("a", "b"))
        self.assertEqual(order.names, ("a", "b"))
        self.assertEqual(order.pairs(), [("b", "a")])
        self.assertIs(order.below("a", "b"), False)

    def test_arguments_stay_as_they_were(self):
        names, pairs = ["b", "a", "c"], [("b", "a"), ("a", "a")]
        order = Order(names, pairs)
        order.part(names)
        self.assertEqual(names, ["b", "a", "c"])
        self.assertEqual(pairs, [("b", "a"), ("a", "a")])
        pairs.append(("a", "b"))
        raised(Ring, Order, names, pairs)
        self.assertEqual([names, pairs], [["b", "a", "c"], [("b", "a"), ("a", "a"), ("a", "b")]])


class AskedTest(unittest.TestCase):
    def test_names_are_an_ascending_tuple(self):
        order = Order(["b2", "b10", "a", "b"], [])
        self.assertEqual(order.names, ("a", "b", "b10", "b2"))
        self.assertIs(type(order.names), tuple)

    def test_below(self):
        order = Order.read("x y z; x < y")
        self.assertIs(order.below("x", "y"), True)
        self.assertIs(order.below("y", "x"), False)
        self.assertIs(order.below("z", "z"), True)
        self.assertIs(order.below("x", "z"), False)

    def test_below_of_unknown_names(self):
        order = Order.chain("x", "y")
        self.assertEqual(raised(UnknownName, order.below, "q", "y"), {"name": "q"})
        self.assertEqual(raised(UnknownName, order.below, "x", "Q"), {"name": "Q"})
        self.assertEqual(raised(UnknownName, order.below, "p", "q"), {"name": "p"})
        self.assertEqual(raised(UnknownName, order.below, "", ""), {"name": ""})

    def test_pairs(self):
        self.assertEqual(Order.chain("c", "b", "a").pairs(), [("b", "a"), ("c", "a"), ("c", "b")])
        self.assertEqual(Order(["a", "b"], []).pairs(), [])
        for order in SOME:
            wanted = sorted(p for p in product(order.names, repeat=2) if p[0] != p[1] and order.below(*p))
            self.assertEqual(order.pairs(), wanted)

    def test_covers(self):
        self.assertEqual(Order.chain("c", "b", "a").covers(), [("b", "a"), ("c", "b")])
        self.assertEqual(Order(["a", "b"], []).covers(), [])
        square = Order(["t", "x", "y", "z"], [("x", "y"), ("x", "z"), ("y", "t"), ("z", "t"), ("x", "t")])
        self.assertEqual(square.covers(), [("x", "y"), ("x", "z"), ("y", "t"), ("z", "t")])
        for order in SOME:
            pairs = order.pairs()
            wanted = [p for p in pairs if not any((p[0], n) in pairs and (n, p[1]) in pairs for n in order.names)]
            self.assertEqual(order.covers(), wanted)
            self.assertEqual(Order(order.names, order.covers()), order)

    def test_ups(self):
        self.assertEqual(Order.chain("b", "a").ups(), [(), ("a",), ("a", "b")])
        self.assertEqual(Order(["b", "a"], []).ups(), [(), ("a",), ("b",), ("a", "b")])
        for order in SOME:
            wanted = []
            for size in range(len(order) + 1):
                for names in combinations(order.names, size):
                    if all(high in names for low, high in order.pairs() if low in names):
                        wanted.append(names)
            self.assertEqual(order.ups(), wanted)

    def test_lists_are_new(self):
        order = Order.read("x y z; x < y; x < z")
        for asked in (order.pairs, order.covers, order.ups):
            told = asked()
            self.assertIs(type(told), list)
            kept = list(told)
            told.clear()
            self.assertEqual(asked(), kept)
        self.assertEqual(str(order), "x y z; x < y; x < z")


class OtherOrdersTest(unittest.TestCase):
    def test_turned(self):
        for order in SOME:
            turned = order.turned()
            self.assertEqual(turned.names, order.names)
            self.assertEqual(turned.pairs(), sorted((high, low) for low, high in order.pairs()))
            self.assertEqual(turned.turned(), order)

    def test_part(self):
        order = Order.chain("d", "c", "b", "a")
        self.assertEqual(str(order.part(["a", "d"])), "a d; d < a")
        self.assertEqual(str(order.part(("b", "d", "a"))), "a b d; b < a; d < b")
        self.assertEqual(order.part(["d", "a", "b", "c"]), order)
        for order in SOME:
            for size in range(1, len(order) + 1):
                for names in list(combinations(order.names, size))[:10]:
                    part = order.part(list(reversed(names)))
                    self.assertEqual(part.names, names)
                    for low, high in product(names, repeat=2):
                        self.assertIs(part.below(low, high), order.below(low, high))

    def test_part_of_wrong_names(self):
        order = Order.chain("x", "y", "z")
        self.assertEqual(raised(BadNumber, order.part, []), {"n": 0})
        self.assertEqual(raised(BadNumber, order.part, ()), {"n": 0})
        self.assertEqual(raised(UnknownName, order.part, ["x", "q", "x"]), {"name": "q"})
        self.assertEqual(raised(UnknownName, order.part, ["Q", "Q"]), {"name": "Q"})
        self.assertEqual(raised(DuplicateName, order.part, ["x", "y", "x", "q"]), {"name": "x"})
        self.assertEqual(raised(DuplicateName, order.part, ["x", "y"] * 5), {"name": "x"})
        self.assertEqual(raised(UnknownName, order.part, ["x", "y", "z", "", "a", "b", "c", "d", "e"]), {"name": ""})

    def test_chain(self):
        order = Order.chain("c", "a", "b")
        self.assertEqual(order.pairs(), [("a", "b"), ("c", "a"), ("c", "b")])
        self.assertEqual(str(Order.chain("q")), "q")
        self.assertEqual(len(Order.chain(*EIGHT)), 8)

    def test_chain_of_wrong_names(self):
        self.assertEqual(raised(BadNumber, Order.chain), {"n": 0})
        self.assertEqual(raised(BadNumber, Order.chain, *EIGHT, "a"), {"n": 9})
        self.assertEqual(raised(BadName, Order.chain, "a", "B", "a"), {"name": "B"})
        self.assertEqual(raised(DuplicateName, Order.chain, "a", "b", "a", "C"), {"name": "a"})

    def test_crown(self):
        self.assertEqual(Order.crown(2).pairs(), [("a1", "b1"), ("a1", "b2"), ("a2", "b1"), ("a2", "b2")])
        self.assertEqual(
            Order.crown(3).pairs(),
            [("a1", "b1"), ("a1", "b3"), ("a2", "b1"), ("a2", "b2"), ("a3", "b2"), ("a3", "b3")],
        )
        self.assertEqual(
            str(Order.crown(4)),
            "a1 a2 a3 a4 b1 b2 b3 b4; a1 < b1; a1 < b4; a2 < b1; a2 < b2; a3 < b2; a3 < b3; a4 < b3; a4 < b4",
        )

    def test_crown_of_other_sizes(self):
        for size in (1, 5, 0, -1, -2, 10 ** 6, 10 ** 5000):
            self.assertEqual(raised(BadNumber, Order.crown, size), {"n": size})


class SignTest(unittest.TestCase):
    def test_in_and_len_and_iteration(self):
        order = Order(["z", "x", "y"], [("z", "x")])
        self.assertEqual([name in order for name in ("x", "z", "q", "", "xy")], [True, True, False, False, False])
        self.assertIs("x" not in order, False)
        self.assertEqual(len(order), 3)
        self.assertIs(type(len(Order(["q"], []))), int)
        self.assertEqual(list(order), ["x", "y", "z"])
        self.assertEqual([one + other for one in order for other in order][:4], ["xx", "xy", "xz", "yx"])

    def test_equality(self):
        for at, first in enumerate(SOME):
            for index, second in enumerate(SOME):
                again = Order(list(reversed(second.names)), list(reversed(second.pairs())))
                self.assertIs(first == again, at == index)
                self.assertIs(first != again, at != index)

    def test_values_of_other_kinds_are_not_equal(self):
        order = Order.chain("a", "b")
        for other in (("a", "b"), ["a", "b"], "a b; a < b", None, 2, True, {"a": ("a", "b"), "b": ("b",)}):
            self.assertIs(order == other, False)
            self.assertIs(other == order, False)
            self.assertIs(order != other, True)


class TextTest(unittest.TestCase):
    def test_texts_that_are_written(self):
        self.assertEqual(str(Order(["a"], [])), "a")
        self.assertEqual(str(Order(["c", "a", "b"], [])), "a b c")
        self.assertEqual(str(Order(["a", "b", "c"], [("a", "c"), ("a", "b")])), "a b c; a < b; a < c")
        self.assertEqual(str(Order.chain("z", "y", "x")), "x y z; y < x; z < y")

    def test_what_is_written_is_read(self):
        for order in SOME:
            self.assertEqual(Order.read(str(order)), order)

    def test_texts_in_any_order_with_pairs_that_are_no_covers(self):
        order = Order.read("c b a; b < c; a < c; a < b; a < b; c < c")
        self.assertEqual(order, Order.chain("a", "b", "c"))

    def refused(self, texts, at):
        for text in texts:
            with self.subTest(text):
                self.assertEqual(raised(BadText, Order.read, text), {"at": at})

    def test_first_parts_that_are_refused(self):
        self.refused([
            "", " ", " a", "a ", "a  b", "a;b", "a ;b", "a;", ";", "; ", "a < b", "a<b", "<", "; a < b", "a;; a < a",
            " ; a < a", "a b ; a < b", "a b;a < b", "A ; x", "a ;",
        ], 0)

    def test_second_parts_that_are_refused(self):
        self.refused([
            "a b; ", "a b; a", "a b; a b", "a b; a <b", "a b; a< b", "a b; a<b", "a b; a < b ", "a b;  a < b",
            "a b; a  < b", "a b; a <  b", "a b; a < b < a", "a b; a < ", "a b;  < b", "a b; <", "a b;  < ",
            "a b; a > b", "a b; a << b", "a b; a < b;", "a b; a < b;a < b", "a b; a < b c", "a b; ; a < b",
            "a b; a <= b", "a b;  ;", "X Y; x",
        ], 1)

    def test_later_parts_that_are_refused(self):
        self.refused(["a b; a < b; ", "a b; a < b; b", "a b; x < y; q;", "A A; a < B; a<b; "], 2)
        self.refused(["a b; a < b; a < b; a < b; b", "a b; a < b; a < b; a < b;  "], 4)

    def test_errors_of_orders_come_after_those_of_texts(self):
        self.assertEqual(raised(BadNumber, Order.read, " ".join(EIGHT + ["I"])), {"n": 9})
        self.assertEqual(raised(BadName, Order.read, "a X a; q < r"), {"name": "X"})
        self.assertEqual(raised(BadName, Order.read, "a >"), {"name": ">"})
        self.assertEqual(raised(DuplicateName, Order.read, "a b a X; q < r"), {"name": "a"})
        self.assertEqual(raised(UnknownName, Order.read, "a b; a < b; b < a; q < r"), {"name": "q"})
        self.assertEqual(raised(UnknownName, Order.read, "a b; a < B"), {"name": "B"})
        self.assertEqual(raised(Ring, Order.read, "c b a; c < a; a < c"), {"names": ["a", "c"]})

    def test_the_same_question_gives_the_same_answer(self):
        order = Order.crown(3)
        asked = [order.pairs, order.covers, order.ups, lambda: str(order), lambda: str(order.turned()),
                 lambda: str(order.part(["b1", "a1"])), lambda: len(order), lambda: list(order)]
        self.assertEqual([ask() for ask in asked], [ask() for ask in asked])


if __name__ == "__main__":
    unittest.main()
