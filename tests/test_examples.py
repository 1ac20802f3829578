"""The examples of the interface, as they stand there."""

import unittest

from onethrow.chances import Chance
from onethrow.errors import BadText
from onethrow.orders import Order
from onethrow.ratios import Ratio, greatest, total


class ExampleTest(unittest.TestCase):
    def test_ratios(self):
        self.assertTrue(callable(greatest))
        a, b = Ratio(1, 2), Ratio(-2, -6)
        self.assertEqual(
            [str(a + b), str(a - b), str(a.quotient(b)), b.bottom, a.under(b), str(total([a, b, Ratio.whole(1)])),
             str(Ratio.read("4/6"))],
            ['5/6', '1/6', '3/2', 3, False, '11/6', '2/3'],
        )

    def test_order_of_a_text(self):
        order = Order.read("x y z; x < y; x < z")
        self.assertEqual(
            [order.covers(), order.below("x", "z"), order.below("z", "x"), order.ups(), str(order.turned())],
            [[('x', 'y'), ('x', 'z')], True, False, [(), ('y',), ('z',), ('y', 'z'), ('x', 'y', 'z')],
             'x y z; y < x; z < x'],
        )

    def test_chains_and_crowns(self):
        self.assertEqual(
            [str(Order.chain("b", "a", "c")), str(Order.crown(2)), len(Order.crown(3)),
             Order.crown(2).part(["b1", "a1"]) == Order.chain("a1", "b1")],
            ['a b c; a < c; b < a', 'a1 a2 b1 b2; a1 < b1; a1 < b2; a2 < b1; a2 < b2', 6, True],
        )

    def test_chance_of_weights(self):
        chance = Chance({"y": 4, "x": 2, "z": 0})
        self.assertEqual(
            [str(chance), list(chance), str(chance.share("y")), str(chance.mass(["y", "z", "y"])), chance.weights(),
             "z" in chance],
            ['x 1 y 2', ['x', 'y'], '2/3', '2/3', {'x': 1, 'y': 2}, False],
        )

    def test_chance_mixed_and_sent(self):
        chance = Chance.read("y 4 x 2")
        self.assertEqual(
            [str(chance.mixed(Chance.sure("z"), Ratio(1, 4))), str(chance.sent({"x": "a", "y": "a"})),
             str(chance.average({"x": Ratio(1, 2), "y": Ratio(2, 1)}))],
            ['x 1 y 2 z 1', 'a 1', '3/2'],
        )

    def test_chance_of_a_wrong_text(self):
        with self.assertRaises(BadText) as caught:
            Chance.read("x 1 y 02")
        self.assertEqual(caught.exception.at, 3)


if __name__ == "__main__":
    unittest.main()
