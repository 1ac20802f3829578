"""Points 0.1 to 0.7 over all modules together: what one module tells fits what another one tells."""

import importlib
import pathlib
import unittest

from helper import orders_up_to, raised, shares_of, some_numbers, used_up
from onethrow.backward import bounds, machine_of, meets, resting
from onethrow.chances import Chance
from onethrow.errors import HasRing, NoThrow, ThrowError, UnknownName
from onethrow.forests import forest_throw, joint_along
from onethrow.hidden import Hidden
from onethrow.lab import Lab
from onethrow.machines import Machine
from onethrow.maps import count_maps, rising_maps
from onethrow.orders import Order
from onethrow.pairs import lower
from onethrow.pictures import diamond, is_forest, ring
from onethrow.ratios import Ratio
from onethrow.shapes import count_orders, forest_shapes, renamed, same_shape, shapes
from onethrow.throws import (harm, is_joint, is_part, is_price_list, is_throw, joint, price_cost, prices,
                             rising_share, throw)
from onethrow.verdicts import always, bad_machine

CHAIN = Order.chain("x", "y")
FORK = Order.read("x y z; x < y; x < z")
SQUARE = Order.read("t x y z; x < y; x < z; y < t; z < t")
CROWN = Order.crown(2)
WHOLE = Ratio.whole(1)


def some_machine(beginnings, standings, state):
    """Return a machine of small numbers."""
    numbers = some_numbers(8 * len(beginnings), 4, state)
    rows = {}
    for at, name in enumerate(beginnings):
        weights = dict(zip(standings, numbers[8 * at:]))
        rows[name] = Chance({**weights, standings.names[0]: 1 + numbers[8 * at]})
    return Machine(beginnings, standings, rows)


class FittingTest(unittest.TestCase):
    def test_a_throw_decides_for_each_two_beginnings(self):
        # Point 8.5 with 5.4 and 4.1: where there is a throw, the machine is rising.
        for state in range(60):
            machine = some_machine((FORK, CHAIN, CROWN)[state % 3], (CHAIN, FORK, SQUARE)[state // 3 % 3], state)
            whole = rising_share(machine) == WHOLE
            if whole:
                self.assertIs(machine.is_rising(), True)
                self.assertTrue(all(lower(machine.standings, machine.row(low), machine.row(high))
                                    for low, high in machine.beginnings.pairs()))
                self.assertEqual(machine_of(machine.beginnings, machine.standings, throw(machine)), machine)
            else:
                self.assertEqual(raised(NoThrow, throw, machine), {})
            self.assertIs(price_cost(machine, prices(machine)) == WHOLE, whole)
            # Point 8.6: a joint table does as much harm as is lacking.
            self.assertEqual(harm(machine, joint(machine)) + rising_share(machine), WHOLE)

    def test_forests_have_the_throws_that_the_packing_finds(self):
        # Point 8.5 with 10.5 and 11.1.
        for shape in forest_shapes(4)[::2] + [FORK]:
            self.assertIs(always(shape), True)
            maps = list(rising_maps(shape, SQUARE))
            for state in range(4):
                chosen = some_numbers(3, len(maps), state)
                table = [(maps[at], Ratio(1 + place, 6)) for place, at in enumerate(chosen)]
                machine = machine_of(shape, SQUARE, table)
                rows = forest_throw(machine)
                self.assertEqual(used_up(machine, rows), shares_of(machine))
                self.assertIs(is_throw(machine, rows) and is_throw(machine, throw(machine)), True)
                self.assertEqual(harm(machine, joint_along(machine)), Ratio.whole(0))

    def test_rings_decide(self):
        # Point 11.1 with 9.2 and 13.4, and 11.2 with 8.3 and 8.4.
        for size in (3, 4):
            forests = forest_shapes(size)
            for shape in shapes(size):
                self.assertIs(always(shape), shape in forests)
                self.assertIs(always(shape), ring(shape) is None)
                if not always(shape):
                    machine, told = bad_machine(shape)
                    self.assertIs(is_price_list(machine, told), True)
                    self.assertIs(price_cost(machine, told).under(rising_share(machine)), False)
                    self.assertEqual(raised(HasRing, forest_throw, machine), {"names": ring(shape)})
                    self.assertIs(is_joint(machine, joint_along(machine)), True)
                    less = harm(machine, joint_along(machine)).under(harm(machine, joint(machine)))
                    self.assertIs(less, False)

    def test_renaming_changes_no_share(self):
        names = {"x": "q", "y": "p", "z": "r", "t": "a"}
        other = renamed(SQUARE, names)
        self.assertEqual(same_shape(SQUARE, other)["x"], "q")
        machine, _ = bad_machine(SQUARE)
        rows = {names[name]: chance.sent(names) for name, chance in machine.rows().items()}
        self.assertEqual(rising_share(Machine(other, other, rows)), rising_share(machine))
        self.assertEqual(count_maps(other, other), count_maps(SQUARE, SQUARE))

    def test_labs_tell_what_their_machines_tell(self):
        # Point 14.3 with 8.3 and 8.5.
        for state in range(6):
            machine = some_machine(SQUARE, FORK, state)
            lab = Lab(SQUARE, FORK)
            for name, chance in machine.rows().items():
                lab.tell(name, chance)
            self.assertEqual([lab.machine(), lab.fault(), lab.share()],
                             [machine, machine.fault(), rising_share(machine)])
            if lab.share() == WHOLE:
                self.assertEqual(lab.throw(), throw(machine))
            else:
                self.assertEqual(raised(NoThrow, lab.throw), {})

    def test_throws_back_in_time_rest_where_the_machine_rests(self):
        # Point 12.1 with 8.1, and 12.6 with 12.5.
        machine = Machine.read(SQUARE, SQUARE, "x: x 3 y 1 z 1; y: x 1 y 2 t 1; z: x 1 z 1 t 1; t: y 1 t 2")
        table = joint(machine)
        self.assertEqual(machine_of(SQUARE, SQUARE, table), machine)
        self.assertIs(meets(SQUARE, table), True)
        chance, = resting(machine)
        self.assertEqual(machine.power(5).led(chance), chance)
        for name, (low, high) in bounds(SQUARE, table, 6).items():
            self.assertIs(chance.share(name).under(low) or high.under(chance.share(name)), False)

    def test_hidden_orders_are_the_orders_of_all_shapes(self):
        for size in (1, 2, 3, 4):
            hidden = Hidden(list("abcd"[:size]))
            self.assertEqual(hidden.many(), count_orders(size))
            for order in hidden.possible():
                self.assertTrue(any(same_shape(order, shape) for shape in shapes(size)))
            hidden.tell(("forest",), True)
            self.assertTrue(all(is_forest(order) for order in hidden.possible()))
        hidden.undo()
        hidden.tell(("diamond",), True)
        self.assertEqual({diamond(order) is None for order in hidden.possible()}, {False})

    def test_the_parts_of_a_machine_have_no_less_a_share(self):
        machine, _ = bad_machine(CROWN)
        for names in (["a1"], ["a1", "b1"], ["b2", "a2", "a1"]):
            self.assertIs(rising_share(machine.part(names)).under(rising_share(machine)), False)
        self.assertEqual(rising_share(machine.turned()), rising_share(machine))


class SharedObjectsTest(unittest.TestCase):
    def told(self, order, machine, lab, hidden):
        """Return what many calls tell of the same objects."""
        answers = [
            str(order), order.ups(), order.covers(), [str(chance) for chance in machine.rows().values()],
            machine.fault(), str(rising_share(machine)), ring(order), diamond(order), always(order),
            count_maps(order, order), lab.told(), lab.untold(), len(lab), str(lab.share()), hidden.told(),
            hidden.many(), hidden.says(("forest",)), [str(shape) for shape in shapes(3)],
            [str(price) for price in prices(machine).values()], str(machine.power(3)), str(machine.turned()),
            [(names, str(share)) for names, share in joint(machine)],
        ]
        return [str(answer) for answer in answers]

    def test_what_is_told_does_not_change_what_is_told_later(self):
        machine = bad_machine(SQUARE)[0]
        lab, hidden = Lab(SQUARE, SQUARE), Hidden(["x", "y"])
        lab.tell("x", machine.row("x"))
        hidden.tell(("below", "x", "y"), True)
        before = self.told(SQUARE, machine, lab, hidden)
        for _ in range(2):
            rows = joint(machine)
            is_part(machine, rows)
            rows.clear()
            bad_machine(SQUARE)[1].clear()
            machine.rows().clear()
            lab.told().clear()
            hidden.told().append(None)
            for wrong in (lambda: lab.tell("q", machine.row("x")), lambda: hidden.says(("below", "x", "q")),
                          lambda: machine.row("q"), lambda: SQUARE.below("x", "q")):
                raised(UnknownName, wrong)
            self.assertEqual(self.told(SQUARE, machine, lab, hidden), before)

    def test_objects_are_equal_to_no_value_of_another_kind(self):
        values = [WHOLE, CHAIN, Chance.sure("x"), Machine.still(CHAIN), 1, "1", "x y; x < y", ("x", "y"), None, True,
                  {"x": 1}, 1.0]
        for at, one in enumerate(values[:4]):
            for to, other in enumerate(values):
                self.assertIs(one == other, at == to)
                self.assertIs(one != other, at != to)

    def test_answers_that_are_booleans_or_integers(self):
        hidden, lab = Hidden(["a"]), Lab(CHAIN, CHAIN)
        for answer in (always(CHAIN), is_forest(FORK), meets(CHAIN, [(("x", "x"), WHOLE)]),
                       hidden.tell(("up", []), True), hidden.knows(("forest",)), lab.fits("x", Chance.sure("x")),
                       is_joint(Machine.still(CHAIN), [])):
            self.assertIs(type(answer), bool)
        for answer in (hidden.many(), len(hidden), len(lab), count_orders(1), count_maps(CHAIN, CHAIN),
                       hidden.best(("forest",)), hidden.needless()[0]):
            self.assertIs(type(answer), int)

    def test_all_errors_are_own_ones(self):
        folder = pathlib.Path(__file__).resolve().parent.parent / "onethrow"
        for file in sorted(folder.glob("*.py")):
            module = importlib.import_module(f"onethrow.{file.stem}")
            for value in vars(module).values():
                if isinstance(value, type) and issubclass(value, Exception) and value is not ThrowError:
                    self.assertEqual([value.__bases__, value.__module__], [(ThrowError,), "onethrow.errors"])


class SmallOrdersTest(unittest.TestCase):
    def test_every_small_order(self):
        for order in orders_up_to(3):
            self.assertIs(always(order), True)
            still = Machine.still(order)
            self.assertEqual(forest_throw(still), [(order.names, WHOLE)])
            self.assertEqual(throw(still), [(order.names, WHOLE)])
            self.assertEqual(len(list(rising_maps(order, order))), count_maps(order, order))


if __name__ == "__main__":
    unittest.main()
