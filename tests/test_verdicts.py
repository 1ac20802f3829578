"""Points 11.1 to 11.4: orders on which every rising machine has a throw, and machines without one on all others."""

import unittest

from helper import all_maps, fraction, orders_up_to, raised, rises, shares_of
from onethrow.errors import NoRing, NoThrow
from onethrow.forests import forest_throw
from onethrow.machines import Machine
from onethrow.orders import Order
from onethrow.pictures import crown, diamond, is_forest
from onethrow.ratios import Ratio
from onethrow.throws import is_price_list, is_throw, price_cost, rising_share, throw
from onethrow.verdicts import always, bad_machine

ONE = Order(["q"], [])
FORK = Order.read("x y z; x < y; x < z")
SQUARE = Order.read("t x y z; x < y; x < z; y < t; z < t")
WEB = Order.read("a1 a2 b1 b2 m; a1 < m; m < b1; a1 < b2; a2 < b1; a2 < b2")
FORESTS = [ONE, FORK, FORK.turned(), Order.chain(*"abcdefgh"), Order(list("abcdefgh"), []), Order.read("a b; b < a"),
           Order.read("a b c d m; a < m; b < m; m < c; m < d; a < d; b < c"),
           Order.read("a b c d; a < b; c < b; c < d"), Order.read("a b c d e; a < b; a < c; d < c; e < d")]
RINGED = [
    SQUARE, WEB, WEB.turned(), Order.crown(2), Order.crown(3), Order.crown(4), Order.crown(3).turned(),
    Order.read("a b c d e; a < b; b < d; a < c; c < d; d < e"),
    Order.read("a b c d e f; a < b; b < c; c < d; a < e; e < d; a < f; f < c"),
    Order.read("p q r x y z; p < y; p < x; q < z; q < y; r < x; r < z"),
    Order.read("a b c d e f m; a < m; m < d; a < e; b < d; b < f; c < e; c < f"),
    Order(list("abcdef"), [(low, high) for low in "ace" for high in "bdf"]),
]
HIGHEST = {4: "8/9", 6: "1/2", 8: "1/2"}


def is_rising(machine):
    """Tell if a machine is rising, by all its up-sets and all comparable beginnings."""
    return not any(machine.row(high).mass(names).under(machine.row(low).mass(names))
                   for low, high in machine.beginnings.pairs() for names in machine.standings.ups())


class AlwaysTest(unittest.TestCase):
    def test_orders_with_and_without_rings(self):
        for order in FORESTS:
            self.assertIs(always(order), True)
        for order in RINGED:
            self.assertIs(always(order), False)

    def test_small_orders(self):
        for order in orders_up_to(4):
            self.assertIs(always(order), is_forest(order))
        ringed = [order for order in orders_up_to(4) if not always(order)]
        # A diamond and a crown of four names: 24 and 6 ways to name them.
        self.assertEqual(len(ringed), 12 + 6)

    def test_what_it_tells_of_machines(self):
        rows = "x: x 2 y 1; y: y 1; z: y 1 z 2"
        self.assertIs(always(FORK), True)
        self.assertIs(is_throw(Machine.read(FORK, FORK, rows), forest_throw(Machine.read(FORK, FORK, rows))), True)
        # The beginnings are a forest and the standings are none.
        chain = Order.chain("x", "y")
        machine = Machine.read(chain, SQUARE, "x: x 1 y 1 z 1; y: y 1 z 1 t 1")
        self.assertIs(is_throw(machine, throw(machine)), True)


class BadMachineTest(unittest.TestCase):
    def check(self, order):
        answer = bad_machine(order)
        self.assertEqual([type(answer), len(answer)], [tuple, 2])
        machine, told = answer
        self.assertIs(type(machine), Machine)
        self.assertEqual([machine.beginnings, machine.standings], [order, order])
        self.assertIs(is_rising(machine), True)
        self.assertIs(machine.is_rising(), True)
        shares = shares_of(machine)
        self.assertEqual([type(told), sorted(told)], [dict, sorted(shares)])
        paid = {pair: fraction(price) for pair, price in told.items()}
        self.assertGreaterEqual(min(paid.values()), 0)
        self.assertLess(sum(paid[pair] * shares[pair] for pair in shares), 1)
        return machine, told

    def test_all_small_orders(self):
        for order in [order for order in orders_up_to(4) if not always(order)] + [SQUARE, WEB, WEB.turned()]:
            machine, told = self.check(order)
            for names in all_maps(order, order):
                if rises(order, order, names):
                    self.assertGreaterEqual(sum(fraction(told[pair]) for pair in zip(order.names, names)), 1)
            self.assertIs(rising_share(machine).under(Ratio.whole(1)), True)
            self.assertEqual(raised(NoThrow, throw, machine), {})

    def test_larger_orders(self):
        for order in RINGED:
            with self.subTest(order=str(order)):
                machine, told = self.check(order)
                self.assertIs(is_price_list(machine, told), True)
                # The costs of point 11.4.
                names = diamond(order)
                wanted = "3/4" if names is not None else HIGHEST[len(crown(order))]
                self.assertIs(Ratio.read(wanted).under(price_cost(machine, told)), False)

    def test_machines_of_five_names(self):
        for order in orders_up_to(5)[300::37]:
            if not always(order):
                machine, told = self.check(order)
                self.assertIs(is_price_list(machine, told), True)
                self.assertEqual(raised(NoThrow, throw, machine), {})

    def test_crowns(self):
        for size, wanted in [(2, "8/9"), (3, "1/2"), (4, "1/2")]:
            machine, told = self.check(Order.crown(size))
            self.assertIs(is_price_list(machine, told), True)
            self.assertIs(Ratio.read(wanted).under(rising_share(machine)), False)
            self.assertEqual(raised(NoThrow, throw, machine), {})

    def test_forests(self):
        for order in FORESTS:
            self.assertEqual(raised(NoRing, bad_machine, order), {})

    def test_the_dictionary_is_new(self):
        machine, told = bad_machine(SQUARE)
        kept = dict(told)
        told.clear()
        self.assertEqual(bad_machine(SQUARE)[1], kept)
        self.assertEqual(bad_machine(SQUARE)[0], machine)


if __name__ == "__main__":
    unittest.main()
