"""The examples of the interface, as they stand there."""

import unittest

from onethrow.backward import bounds, closed_sets, ended, machine_of, meets, resting, thrown, together
from onethrow.chances import Chance
from onethrow.errors import BadText
from onethrow.forests import dealt, forest_throw, growth, spanning
from onethrow.hidden import Hidden
from onethrow.lab import Lab
from onethrow.machines import Machine
from onethrow.maps import broken_pair, composed, count_maps, extended, rising_maps, settled
from onethrow.orders import Order
from onethrow.packing import cost, is_packing, is_pricing, packed, sum_of
from onethrow.pairs import barring, lower, pair_table
from onethrow.pictures import crown, diamond, is_forest, is_retraction, lows, retraction, ring
from onethrow.ratios import Ratio, greatest, total
from onethrow.shapes import count_orders, forest_shapes, plain_shape, renamed, same_shape, shapes, symmetries
from onethrow.throws import is_price_list, is_throw, price_cost, prices, rising_share, throw
from onethrow.verdicts import always, bad_machine


class ExampleTest(unittest.TestCase):
    def test_ratios(self):
        self.assertTrue(callable(greatest))
        a, b = Ratio(1, 2), Ratio(-2, -6)
        self.assertEqual(
            [str(a + b), str(a - b), str(a.quotient(b)), b.bottom, a.under(b), str(total([a, b, Ratio.whole(1)])),
             str(Ratio.read("4/6"))],
            ['5/6', '1/6', '3/2', 3, False, '11/6', '2/3'],
        )

    def test_order_of_a_text(self):
        order = Order.read("x y z; x < y; x < z")
        self.assertEqual(
            [order.covers(), order.below("x", "z"), order.below("z", "x"), order.ups(), str(order.turned())],
            [[('x', 'y'), ('x', 'z')], True, False, [(), ('y',), ('z',), ('y', 'z'), ('x', 'y', 'z')],
             'x y z; y < x; z < x'],
        )

    def test_chains_and_crowns(self):
        self.assertEqual(
            [str(Order.chain("b", "a", "c")), str(Order.crown(2)), len(Order.crown(3)),
             Order.crown(2).part(["b1", "a1"]) == Order.chain("a1", "b1")],
            ['a b c; a < c; b < a', 'a1 a2 b1 b2; a1 < b1; a1 < b2; a2 < b1; a2 < b2', 6, True],
        )

    def test_chance_of_weights(self):
        chance = Chance({"y": 4, "x": 2, "z": 0})
        self.assertEqual(
            [str(chance), list(chance), str(chance.share("y")), str(chance.mass(["y", "z", "y"])), chance.weights(),
             "z" in chance],
            ['x 1 y 2', ['x', 'y'], '2/3', '2/3', {'x': 1, 'y': 2}, False],
        )

    def test_chance_mixed_and_sent(self):
        chance = Chance.read("y 4 x 2")
        self.assertEqual(
            [str(chance.mixed(Chance.sure("z"), Ratio(1, 4))), str(chance.sent({"x": "a", "y": "a"})),
             str(chance.average({"x": Ratio(1, 2), "y": Ratio(2, 1)}))],
            ['x 1 y 2 z 1', 'a 1', '3/2'],
        )

    def test_chance_of_a_wrong_text(self):
        with self.assertRaises(BadText) as caught:
            Chance.read("x 1 y 02")
        self.assertEqual(caught.exception.at, 3)

    def test_pairs(self):
        order = Order.read("x y z; x < y; x < z")
        low, high = Chance({"x": 1, "y": 1}), Chance({"y": 1, "z": 1})
        self.assertEqual([lower(order, low, high), barring(order, high, low)], [True, ('z',)])
        self.assertEqual(
            [(first, second, str(share)) for first, second, share in pair_table(order, low, high)],
            [('x', 'z', '1/2'), ('y', 'y', '1/2')],
        )

    def test_machine_of_a_text(self):
        order = Order.read("x y z; x < y; x < z")
        machine = Machine.read(order, order, "x: x 1 y 1; y: y 1 z 1; z: z 2")
        self.assertEqual(
            [machine.is_rising(), machine.fault(), str(machine.row("y")), str(machine.power(2)),
             str(machine.led(machine.row("x")))],
            [False, ('x', 'z', ('y',)), 'y 1 z 1', 'x: x 1 y 2 z 1; y: y 1 z 3; z: z 1', 'x 1 y 2 z 1'],
        )

    def test_machines_along_maps(self):
        order = Order.chain("x", "y")
        self.assertEqual(
            [str(Machine.still(order)), Machine.along(order, order, ("y", "x")).fault(),
             Machine.still(order).turned().is_rising()],
            ['x: x 1; y: y 1', ('x', 'y', ('y',)), True],
        )

    def test_machine_of_a_wrong_text(self):
        order = Order.chain("x", "y")
        with self.assertRaises(BadText) as caught:
            Machine.read(order, order, "y: x 1; x x 1")
        self.assertEqual(caught.exception.at, 1)

    def test_machine_that_is_not_rising(self):
        order = Order.read("a b c d; a < c; b < c; b < d")
        machine = Machine.read(order, order, "a: a 1; b: b 1 d 1; c: c 1; d: d 1")
        self.assertEqual(machine.fault(), ('b', 'c', ('d',)))

    def test_maps(self):
        chain, fork = Order.chain("a", "b"), Order.read("x y z; x < y; x < z")
        self.assertEqual(
            [list(rising_maps(chain, fork)), count_maps(fork, fork), broken_pair(chain, fork, ("y", "z"))],
            [[('x', 'x'), ('x', 'y'), ('x', 'z'), ('y', 'y'), ('z', 'z')], 11, ('a', 'b')],
        )
        self.assertEqual(
            [extended(fork, fork, {"y": "z", "x": "y"}), extended(fork, fork, {"z": "y"}),
             composed(fork, ("x", "y"), ("x", "x", "z")), settled(fork, ("x", "x", "z"))],
            [None, ('x', 'x', 'y'), ('x', 'x'), ['x', 'z']],
        )

    def test_packing(self):
        things, limits = [[0, 1], [1, 2], [0, 2]], [Ratio.whole(1), Ratio.whole(1), Ratio.whole(1)]
        weights, prices = packed(things, limits)
        self.assertEqual(
            [str(sum_of(weights)), str(cost(limits, prices)), is_packing(things, limits, weights),
             is_pricing(things, 3, prices)],
            ['3/2', '3/2', True, True],
        )

    def test_a_machine_without_a_throw(self):
        crown_of_two = Order.crown(2)
        machine = Machine.read(
            crown_of_two, crown_of_two,
            "a1: a1 1 a2 1 b1 1; a2: a1 1 a2 1 b2 1; b1: a1 1 b1 1 b2 1; b2: a2 1 b1 1 b2 1",
        )
        told = prices(machine)
        self.assertEqual(
            [machine.is_rising(), str(rising_share(machine)), is_price_list(machine, told),
             str(price_cost(machine, told))],
            [True, '8/9', True, '8/9'],
        )

    def test_a_throw(self):
        self.assertTrue(callable(is_throw))
        chain = Order.chain("x", "y")
        machine = Machine.read(chain, chain, "x: x 2 y 1; y: x 1 y 2")
        self.assertEqual(
            [(names, str(share)) for names, share in throw(machine)],
            [(('x', 'x'), '1/3'), (('x', 'y'), '1/3'), (('y', 'y'), '1/3')],
        )

    def test_pictures(self):
        square = Order.read("t x y z; x < y; x < z; y < t; z < t")
        self.assertEqual(
            [ring(square), lows(square, ring(square)), diamond(square), crown(square),
             is_forest(Order.chain("a", "b"))],
            [['t', 'y', 'x', 'z'], ['x'], ('x', 'y', 'z', 't'), None, True],
        )
        web = Order.read("a1 a2 b1 b2 m; a1 < m; m < b1; a1 < b2; a2 < b1; a2 < b2")
        self.assertEqual(
            [ring(web), crown(web), is_retraction(web, retraction(web), crown(web))],
            [['a1', 'b2', 'a2', 'b1', 'm'], ['a1', 'b1', 'a2', 'b2'], True],
        )

    def test_forests(self):
        order = Order.read("a b c d; a < c; b < c; b < d")
        self.assertEqual(
            [spanning(order), growth(order), spanning(Order.crown(2))],
            [[('a', 'c'), ('b', 'c'), ('b', 'd')], [('a', None), ('c', 'a'), ('b', 'c'), ('d', 'b')],
             [('a1', 'b1'), ('a1', 'b2'), ('a2', 'b1')]],
        )
        first = [("x", Ratio(1, 2)), ("y", Ratio(1, 2))]
        second = [(1, Ratio(1, 3)), (2, Ratio(2, 3))]
        self.assertEqual(
            [(one, other, str(share)) for one, other, share in dealt(first, second)],
            [('x', 1, '1/3'), ('x', 2, '1/6'), ('y', 2, '1/2')],
        )

    def test_a_throw_along_a_forest(self):
        order = Order.read("x y z; x < y; x < z")
        machine = Machine.read(order, order, "x: x 2 y 1; y: y 1; z: y 1 z 2")
        self.assertEqual(
            [(names, str(share)) for names, share in forest_throw(machine)],
            [(('x', 'y', 'z'), '2/3'), (('y', 'y', 'y'), '1/3')],
        )

    def test_verdicts(self):
        self.assertEqual(
            [always(Order.chain("x", "y", "z")), always(Order.crown(2)),
             always(Order.read("a b c d; a < b; c < b; c < d"))],
            [True, False, True],
        )
        machine, told = bad_machine(Order.crown(3))
        self.assertEqual(
            [machine.is_rising(), is_price_list(machine, told),
             price_cost(machine, told).under(price_cost(machine, told) + price_cost(machine, told))],
            [True, True, True],
        )

    def test_backward(self):
        order = Order.chain("x", "y")
        rows = [(("x", "x"), Ratio(1, 3)), (("x", "y"), Ratio(1, 3)), (("y", "y"), Ratio(1, 3))]
        self.assertEqual(
            [str(machine_of(order, order, rows)), [(names, str(share)) for names, share in thrown(order, rows, 2)],
             str(together(order, rows, 2))],
            ['x: x 2 y 1; y: x 1 y 2', [(('x', 'x'), '4/9'), (('x', 'y'), '1/9'), (('y', 'y'), '4/9')], '8/9'],
        )
        self.assertEqual(
            [ended(order, rows, [1, 1, 2, 0]), ended(order, rows, [1]), meets(order, rows),
             [str(chance) for chance in resting(machine_of(order, order, rows))]],
            [(3, 'y'), None, True, ['x 1 y 1']],
        )
        self.assertEqual(
            [[str(bound) for bound in bounds(order, rows, 1)["x"]],
             closed_sets(machine_of(order, order, [(("x", "y"), Ratio.whole(1))]))],
            [['1/3', '2/3'], [['x'], ['y']]],
        )

    def test_shapes(self):
        self.assertTrue(callable(renamed))
        fork = Order.read("x y z; x < y; x < z")
        self.assertEqual(
            [str(plain_shape(fork)), same_shape(fork, Order.read("p q r; q < p; q < r")), symmetries(fork),
             same_shape(fork, fork.turned())],
            ['a b c; a < b; a < c', {'x': 'q', 'y': 'p', 'z': 'r'}, 2, None],
        )
        self.assertEqual(
            [[str(order) for order in shapes(2)], len(list(shapes(4))), len(forest_shapes(4)), count_orders(3)],
            [['a b', 'a b; a < b'], 16, 14, 19],
        )

    def test_lab(self):
        chain = Order.chain("x", "y", "z")
        lab = Lab(chain, chain)
        self.assertIs(lab.tell("x", Chance.read("x 1 y 1")), None)
        self.assertIs(lab.tell("z", Chance.read("y 1 z 3")), None)
        self.assertEqual(
            [lab.untold(), lab.fault(), str(lab.share()), [str(bound) for bound in lab.bounds("y", ["y"])],
             lab.fits("y", Chance.sure("x"))],
            [['y'], None, '1', ['1/2', '1'], False],
        )
        self.assertIs(lab.tell("y", Chance.read("x 3 z 1")), None)
        self.assertEqual(
            [lab.fault(), str(lab.share()), lab.undo(), len(lab), str(lab.machine()),
             is_throw(lab.machine(), lab.throw())],
            [('x', 'y', ('y', 'z')), '3/4', None, 2, 'x: x 1 y 1; z: y 1 z 3', True],
        )

    def test_hidden(self):
        hidden = Hidden(["x", "y", "z"])
        told = [hidden.tell(("below", "x", "y"), True), hidden.tell(("up", ["z"]), True),
                hidden.tell(("below", "y", "x"), True)]
        self.assertEqual(
            [told, hidden.many(), hidden.says(("forest",)), hidden.says(("below", "z", "x")),
             hidden.says(("below", "y", "z"))],
            [[True, True, False], 3, 'sure', 'never', 'open'],
        )
        self.assertEqual(
            [hidden.supposed([(("map", ["y", "y", "x"]), True)], ("below", "x", "z")),
             [str(order) for order in hidden.possible()],
             hidden.best(("below", "x", "z"), ("below", "y", "z"))],
            ['never', ['x y z; x < y', 'x y z; x < y; x < z', 'x y z; x < y; y < z'], 0],
        )


if __name__ == "__main__":
    unittest.main()
