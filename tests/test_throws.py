"""Points 8.1 to 8.7: throws of machines, and the prices that show that there is none."""

import unittest
from fractions import Fraction

from helper import all_maps, fraction, orders_up_to, raised, rises, rising_sum, shares_of, some_numbers, used_up
from onethrow.chances import Chance
from onethrow.errors import NoThrow
from onethrow.machines import Machine
from onethrow.orders import Order
from onethrow.ratios import Ratio
from onethrow.throws import (greatest_part, harm, is_joint, is_part, is_price_list, is_throw, joint, price_cost, prices,
                             rising_share, throw)

ONE = Order(["q"], [])
CHAIN = Order.chain("x", "y")
APART = Order(["x", "y"], [])
FORK = Order.read("x y z; x < y; x < z")
SQUARE = Order.read("t x y z; x < y; x < z; y < t; z < t")
CROWN = Order.crown(2)

SWAY = Machine.read(CHAIN, CHAIN, "x: x 2 y 1; y: x 1 y 2")
FALL = Machine.read(CHAIN, CHAIN, "x: y 1; y: x 1")
SINK = Machine.read(CHAIN, CHAIN, "x: x 1 y 2; y: x 2 y 1")
LONE = Machine.read(ONE, FORK, "q: x 1 y 2 z 3")
WEB = Machine.read(
    CROWN, CROWN, "a1: a1 1 a2 1 b1 1; a2: a1 1 a2 1 b2 1; b1: a1 1 b1 1 b2 1; b2: a2 1 b1 1 b2 1")
BOX = Machine.read(SQUARE, SQUARE, "x: x 1 y 1; y: y 1 z 1; z: x 1 t 1; t: y 1 t 1")
HEXAGON = Machine.read(
    Order.crown(3), Order.crown(3),
    "a1: a1 1 a2 1; a2: a1 1 a3 1; a3: a1 1 a2 1; b1: a1 1 b2 1; b2: b1 1 b3 1; b3: a1 1 a2 1")
SAME = Machine.along(SQUARE, FORK, ["z", "z", "z", "z"])
SPLIT = Machine.read(APART, APART, "x: x 1 y 2; y: x 3 y 1")
# Over standings that are not comparable the beginnings x and y cannot part.
PARTED = Machine.read(CHAIN, APART, "x: x 1 y 3; y: x 2 y 1")
# The number behind each machine is its rising share.
KNOWN = [
    (SWAY, "1"), (FALL, "0"), (SINK, "2/3"), (LONE, "1"), (WEB, "8/9"), (BOX, "3/4"), (HEXAGON, "1/2"), (SAME, "1"),
    (SPLIT, "1"), (PARTED, "7/12"), (Machine.still(CROWN), "1"), (Machine.still(ONE), "1"),
    (WEB.mixed(Machine.still(CROWN), Ratio(1, 2)), "1"), (WEB.power(2), "1"), (BOX.turned(), "3/4"),
    (WEB.part(["b1", "a1", "b2"]), "1"), (Machine.along(FORK, CROWN, ["a1", "a2", "b1"]), "0"),
]
SIXTH, THIRD, HALF, TWO_THIRDS, WHOLE = Ratio(1, 6), Ratio(1, 3), Ratio(1, 2), Ratio(2, 3), Ratio(1, 1)
XX, XY, YX, YY = ("x", "x"), ("x", "y"), ("y", "x"), ("y", "y")


def some_machines():
    """Return machines between small orders, most of them not rising."""
    orders = orders_up_to(3)[::2] + [CROWN, SQUARE]
    numbers = some_numbers(2000, 4)
    found = []
    for at, beginnings in enumerate(orders):
        standings = orders[at * 5 % 11]
        rows = {}
        for place, name in enumerate(beginnings):
            weights = numbers[at * 40 + place * 4:][:len(standings)]
            rows[name] = Chance({**dict(zip(standings, weights)), standings.names[0]: weights[0] + 1})
        found.append(Machine(beginnings, standings, rows))
    return found


MANY = some_machines()


def rows_of(text):
    """Return the rows of a text of maps of two letters with shares."""
    words = text.split()
    return [(tuple(names), Ratio.read(share)) for names, share in zip(words[::2], words[1::2])]


def pays_all(machine, told):
    """Tell if some prices are a price list, by all maps and without the program's own functions."""
    paid = {pair: fraction(price) for pair, price in told.items()}
    maps = [names for names in all_maps(machine.beginnings, machine.standings)
            if rises(machine.beginnings, machine.standings, names)]
    return (set(paid) == set(shares_of(machine)) and min(paid.values()) >= 0
            and all(sum(paid[pair] for pair in zip(machine.beginnings.names, names)) >= 1 for names in maps))


class PartTest(unittest.TestCase):
    def check(self, machine, text, part, whole):
        for rows in (rows_of(text), tuple(rows_of(text))):
            self.assertIs(is_part(machine, rows), part)
            self.assertIs(is_throw(machine, rows), whole)

    def test_throws(self):
        self.check(SWAY, "xx 1/3 xy 1/3 yy 1/3", True, True)
        self.check(SWAY, "yy 1/3 xx 1/3 xy 1/3", True, True)
        self.check(SPLIT, "xx 1/3 yx 5/12 yy 1/4", True, True)
        self.check(SPLIT, "xy 1/4 xx 1/12 yx 2/3", True, True)
        self.assertIs(is_throw(LONE, [(("x",), SIXTH), (("y",), THIRD), (("z",), HALF)]), True)
        self.assertIs(is_throw(SAME, [(("z",) * 4, WHOLE)]), True)

    def test_rising_parts_that_are_no_throws(self):
        for text in ("xx 1/3", "xy 2/3", "xx 1/3 yy 1/3", "xx 1/3 xy 1/3 yy 1/4", "yy 1/100", ""):
            self.check(SWAY, text, True, False)
        self.check(SINK, "xx 1/3 yy 1/3", True, False)
        self.check(FALL, "", True, False)

    def test_maps_that_come_repeatedly(self):
        self.check(SWAY, "xx 1/6 xy 1/3 xx 1/6 yy 1/3", True, True)
        self.check(SWAY, "yy 1/9 yy 1/9 yy 1/9 xx 1/3 xy 1/6 xy 1/6", True, True)
        self.check(SWAY, "xx 1/6 xx 1/6", True, False)
        self.check(SWAY, "xx 1/6 xx 1/6 xx 1/100", False, False)
        self.check(SWAY, "xx 1/3 xy 1/3 yy 1/3 yy 1/3", False, False)

    def test_more_than_the_machine_tells(self):
        for text in ("xx 1/2", "xx 1", "xy 1", "xy 2/3 yy 1/3", "xx 1/3 xy 1/3 yy 34/100", "xx 1/3 xy 2/3", "yy 1/2"):
            self.check(SWAY, text, False, False)
        self.check(FALL, "xx 1/100", False, False)
        self.check(FALL, "xx 1", False, False)
        self.check(SAME, "", True, False)

    def test_maps_that_are_not_rising(self):
        self.check(FALL, "yx 1", False, False)
        self.check(SINK, "xx 1/3 yx 1/3 yy 1/3", False, False)
        self.check(SWAY, "yx 1/100", False, False)
        self.check(SPLIT, "xy 1/4 yx 1/100", True, False)

    def test_what_is_no_map(self):
        for names in ((), ("x",), ("x", "x", "x"), ("x", "z"), ("a", "y"), ("", ""), ("X", "y")):
            for rows in ([(names, Ratio(1, 100))], [(("x", "x"), THIRD), (names, Ratio(1, 100))]):
                self.assertIs(is_part(SWAY, rows), False)
                self.assertIs(is_throw(SWAY, rows), False)
        rows = rows_of("xx 1/3 xy 1/3 yy 1/3")
        self.assertIs(is_throw(SWAY, rows + [((), THIRD)]), False)

    def test_shares_that_are_not_positive(self):
        for text in ("xx 0", "xx -1/3", "xx 1/3 xy 1/3 yy 1/3 xx 0", "xx 1/2 xx -1/6 xy 1/3 yy 1/3",
                     "xx 1/3 xy 1/3 yy 1/3 yy 1/3 yy -1/3"):
            self.check(SWAY, text, False, False)

    def test_orders_of_eight_names(self):
        eight = Order([f"n{k}" for k in range(8)], [])
        rows = [(eight.names[k:] + eight.names[:k], Ratio(1, 8)) for k in range(8)]
        machine = Machine(eight, eight, {name: Chance({goal: 1 for goal in eight}) for name in eight})
        self.assertIs(is_throw(machine, rows), True)
        self.assertIs(is_throw(machine, rows[1:]), False)
        self.assertIs(is_joint(machine, rows), True)
        self.assertIs(is_joint(machine, rows[1:]), False)
        self.assertIs(is_throw(machine, rows[1:] + rows[1:2]), False)

    def test_what_is_passed_stays_as_it_is(self):
        rows = rows_of("yy 1/6 xx 1/3 yy 1/6")
        for call in (is_part, is_throw, is_joint, harm):
            call(SWAY, rows)
        self.assertEqual(rows, rows_of("yy 1/6 xx 1/3 yy 1/6"))


class GreatestPartTest(unittest.TestCase):
    def test_known_shares(self):
        for machine, share in KNOWN:
            with self.subTest(machine=str(machine)):
                found = rising_share(machine)
                self.assertEqual([type(found), str(found)], [Ratio, share])

    def test_parts_and_prices_of_many_machines(self):
        for machine in [machine for machine, _ in KNOWN] + MANY:
            with self.subTest(machine=str(machine)):
                rows = greatest_part(machine)
                told = shares_of(machine)
                used = used_up(machine, rows)
                self.assertTrue(all(rises(machine.beginnings, machine.standings, names) for names, _ in rows))
                self.assertTrue(all(used[pair] <= told[pair] for pair in told))
                self.assertIs(is_part(machine, rows), True)
                found = sum((fraction(share) for _, share in rows), Fraction(0))
                self.assertEqual(fraction(rising_share(machine)), found)
                # Prices of the same cost show that no part has a greater sum.
                paid = prices(machine)
                self.assertTrue(pays_all(machine, paid))
                self.assertEqual(sum(fraction(paid[pair]) * told[pair] for pair in told), found)

    def test_no_rising_map_matters(self):
        self.assertEqual(greatest_part(FALL), [])
        self.assertEqual(rising_share(FALL), Ratio(0, 1))

    def test_one_beginning(self):
        self.assertEqual(greatest_part(LONE), [(("x",), SIXTH), (("y",), THIRD), (("z",), HALF)])

    def test_three_hundred_maps(self):
        low, high = Order.chain(*"abcd"), Order.chain(*"stuvwx")
        rows = {name: Chance({goal: 1 + (at * 7 + place * 5) % 6 for place, goal in enumerate(high)})
                for at, name in enumerate(low)}
        machine = Machine(low, high, rows)
        part = greatest_part(machine)
        used, told = used_up(machine, part), shares_of(machine)
        self.assertTrue(all(used[pair] <= told[pair] for pair in told))
        self.assertEqual(sum(used.values()), 4 * rising_sum(machine, part))
        paid = prices(machine)
        self.assertIs(is_price_list(machine, paid), True)
        self.assertEqual(price_cost(machine, paid), rising_share(machine))

    def test_the_list_is_new(self):
        told = str(rising_share(SWAY))
        greatest_part(SWAY).clear()
        self.assertEqual(greatest_part(SWAY), rows_of("xx 1/3 xy 1/3 yy 1/3"))
        self.assertEqual(str(rising_share(SWAY)), told)


class PricesTest(unittest.TestCase):
    def test_kinds_of_values(self):
        for machine in [machine for machine, _ in KNOWN] + MANY:
            found = prices(machine)
            self.assertEqual(sorted(found), sorted(shares_of(machine)))
            self.assertEqual({type(price) for price in found.values()}, {Ratio})
            self.assertIs(is_price_list(machine, found), True)
            self.assertEqual(price_cost(machine, found), rising_share(machine))

    def test_the_dictionary_is_new(self):
        prices(WEB).clear()
        self.assertIs(is_price_list(WEB, prices(WEB)), True)

    def test_price_lists(self):
        low, none = {("x", "x"): WHOLE, ("x", "y"): WHOLE}, {("y", "x"): Ratio(0, 1), ("y", "y"): Ratio(0, 1)}
        self.assertIs(is_price_list(SWAY, {**low, **none}), True)
        self.assertIs(is_price_list(SWAY, {**none, **low}), True)
        halves = {pair: HALF for pair in low | none}
        self.assertIs(is_price_list(SWAY, halves), True)
        self.assertIs(is_price_list(SWAY, {**halves, ("y", "x"): Ratio(10, 1)}), True)
        self.assertIs(is_price_list(SWAY, {**halves, ("y", "x"): Ratio(499, 1000)}), False)
        # The map that takes x to y and y to x is not rising, so it need not be paid.
        self.assertIs(is_price_list(SWAY, {("x", "x"): WHOLE, ("x", "y"): HALF, ("y", "x"): Ratio(0, 1),
                                           ("y", "y"): HALF}), True)
        self.assertIs(is_price_list(SWAY, {("x", "x"): WHOLE, ("x", "y"): HALF, ("y", "x"): WHOLE,
                                           ("y", "y"): Ratio(1, 3)}), False)

    def test_rising_maps_that_do_not_matter_are_paid_as_well(self):
        still = Machine.still(CHAIN)
        free = {("x", "x"): HALF, ("x", "y"): Ratio(0, 1), ("y", "x"): HALF, ("y", "y"): HALF}
        self.assertIs(is_price_list(still, free), False)
        self.assertIs(is_price_list(still, {**free, ("x", "y"): Ratio(1, 3)}), False)
        self.assertIs(is_price_list(still, {**free, ("x", "y"): HALF}), True)
        self.assertIs(is_price_list(FALL, {pair: Ratio(0, 1) for pair in free}), False)

    def test_prices_below_0(self):
        told = {("x", "x"): Ratio(2, 1), ("x", "y"): Ratio(2, 1), ("y", "x"): Ratio(-1, 1), ("y", "y"): Ratio(0, 1)}
        self.assertIs(is_price_list(SWAY, told), False)
        self.assertIs(is_price_list(SWAY, {**told, ("y", "x"): Ratio(-1, 10 ** 30)}), False)
        self.assertIs(is_price_list(SWAY, {**told, ("y", "x"): Ratio(0, 1)}), True)

    def test_a_key_too_few_or_too_many(self):
        told = {(name, goal): WHOLE for name in "xy" for goal in "xy"}
        self.assertIs(is_price_list(SWAY, told), True)
        for pair in told:
            less = {key: price for key, price in told.items() if key != pair}
            self.assertIs(is_price_list(SWAY, less), False)
            for other in (("x", "z"), ("z", "x"), ("q", ""), ("Y", "y")):
                self.assertIs(is_price_list(SWAY, {**less, other: WHOLE}), False)
                self.assertIs(is_price_list(SWAY, {**told, other: WHOLE}), False)
                self.assertIs(is_price_list(SWAY, {**told, other: Ratio(0, 1)}), False)
        self.assertIs(is_price_list(SWAY, {}), False)
        # From beginnings to standings, not the other way round.
        self.assertIs(is_price_list(LONE, {("q", goal): WHOLE for goal in "xyz"}), True)
        self.assertIs(is_price_list(LONE, {(goal, "q"): WHOLE for goal in "xyz"}), False)

    def test_changed_price_lists_of_many_machines(self):
        numbers = some_numbers(len(MANY) * 3, 64)
        for at, machine in enumerate(MANY):
            paid = prices(machine)
            keys = sorted(paid)
            for step, number in enumerate(numbers[at * 3:at * 3 + 3]):
                key = keys[number % len(keys)]
                changed = {**paid, key: paid[key] - Ratio(step, 7)}
                self.assertIs(is_price_list(machine, changed), pays_all(machine, changed))

    def test_three_thousand_maps(self):
        low, high = Order.chain(*"abcdefg"), Order.chain(*"stuvwxyz")
        self.assertIs(is_price_list(Machine.along(low, high, ["s"] * 7), prices(Machine.along(low, high, "stuvwxy"))),
                      True)
        machine = Machine.along(low, high, ["s"] * 7)
        told = {(name, goal): Ratio(1, 7) for name in low for goal in high}
        self.assertIs(is_price_list(machine, told), True)
        self.assertIs(is_price_list(machine, {**told, ("g", "z"): Ratio(1, 8)}), False)

    def test_cost(self):
        told = {("x", "x"): WHOLE, ("x", "y"): THIRD, ("y", "x"): Ratio(0, 1), ("y", "y"): TWO_THIRDS}
        self.assertEqual(str(price_cost(SWAY, told)), "11/9")
        self.assertEqual(str(price_cost(FALL, told)), "1/3")
        self.assertEqual(str(price_cost(LONE, {("q", "x"): WHOLE, ("q", "y"): Ratio(3, 2), ("q", "z"): WHOLE})), "7/6")
        self.assertEqual(len(told), 4)

    def test_a_part_has_no_greater_sum_than_the_cost(self):
        for machine, _ in KNOWN:
            self.assertIs(price_cost(machine, prices(machine)).under(rising_share(machine)), False)


class ThrowTest(unittest.TestCase):
    def test_throws_of_known_machines(self):
        for machine, share in KNOWN:
            if share == "1":
                rows = throw(machine)
                self.assertEqual(used_up(machine, rows), shares_of(machine))
                self.assertEqual(rising_sum(machine, rows), 1)
                self.assertIs(is_throw(machine, rows), True)
            else:
                self.assertEqual(raised(NoThrow, throw, machine), {})

    def test_throws_of_many_machines(self):
        for machine in MANY:
            if rising_share(machine) == WHOLE:
                rows = throw(machine)
                self.assertEqual(used_up(machine, rows), shares_of(machine))
                self.assertEqual(rising_sum(machine, rows), 1)
                self.assertIs(machine.is_rising(), True)
            else:
                self.assertEqual(raised(NoThrow, throw, machine), {})

    def test_machines_that_are_not_rising(self):
        for machine in (FALL, SINK, PARTED):
            self.assertIs(machine.is_rising(), False)
            self.assertEqual(raised(NoThrow, throw, machine), {})

    def test_rising_machines_without_a_throw(self):
        for machine in (WEB, BOX, HEXAGON, BOX.turned()):
            self.assertIs(machine.is_rising(), True)
            self.assertEqual(raised(NoThrow, throw, machine), {})

    def test_a_lack_of_little(self):
        level = Machine.read(CHAIN, CHAIN, "x: x 1 y 1; y: x 1 y 1")
        little = Ratio(1, 10 ** 12)
        self.assertEqual(throw(level), rows_of("xx 1/2 yy 1/2"))
        self.assertEqual(raised(NoThrow, throw, level.mixed(FALL, little)), {})
        self.assertEqual(rising_share(level.mixed(FALL, little)), WHOLE - little)

    def test_the_list_is_new(self):
        throw(SWAY).append(None)
        self.assertEqual(throw(SWAY), rows_of("xx 1/3 xy 1/3 yy 1/3"))


class JointTest(unittest.TestCase):
    def test_joint_tables_of_many_machines(self):
        for machine in [machine for machine, _ in KNOWN] + MANY:
            with self.subTest(machine=str(machine)):
                rows = joint(machine)
                self.assertEqual(used_up(machine, rows), shares_of(machine))
                self.assertEqual(rising_sum(machine, rows), fraction(rising_share(machine)))
                self.assertIs(is_joint(machine, rows), True)
                self.assertEqual(harm(machine, rows), WHOLE - rising_share(machine))

    def test_the_only_ones(self):
        self.assertEqual(joint(FALL), rows_of("yx 1"))
        self.assertEqual(joint(SINK), rows_of("xx 1/3 yx 1/3 yy 1/3"))
        self.assertEqual(joint(SWAY), rows_of("xx 1/3 xy 1/3 yy 1/3"))

    def test_is_joint(self):
        for rows in (rows_of("xx 1/3 yx 1/3 yy 1/3"), rows_of("yy 1/3 yx 1/3 xx 1/3"), rows_of("xy 1/3 yx 2/3"),
                     rows_of("xx 1/6 yx 1/2 yy 1/6 xy 1/6"), rows_of("yx 1/6 xx 1/3 yx 1/6 yy 1/6 yy 1/6")):
            self.assertIs(is_joint(SINK, rows), True)
            self.assertIs(is_joint(SINK, tuple(rows)), True)
            self.assertIs(is_joint(SWAY, rows), False)
        self.assertIs(is_joint(SWAY, rows_of("xx 1/3 xy 1/3 yy 1/3")), True)
        self.assertIs(is_joint(SWAY, rows_of("xy 2/3 yx 1/3")), True)

    def test_is_no_joint_table(self):
        for text in ("", "xx 1/3 yx 1/3", "xx 1/3 yx 1/3 yy 1/3 xy 1/100", "xx 1/3 yx 1/3 yy 1/3 yy 0", "xx 1",
                     "xx 1/2 xx -1/6 yx 1/3 yy 1/3", "xx 1/6 yx 1/2 yy 1/3", "yx 1", "xx 1/3 yy 2/3",
                     "xx 2/3 yx 2/3 yy 2/3"):
            self.assertIs(is_joint(SINK, rows_of(text)), False)
        rows = rows_of("xx 1/3 yx 1/3 yy 1/3")
        for names in ((), ("x",), ("x", "x", "x"), ("x", "z"), ("", "x"), ("X", "y")):
            self.assertIs(is_joint(SINK, rows + [(names, THIRD)]), False)
            self.assertIs(is_joint(SINK, [(names, THIRD)] + rows[1:]), False)

    def test_harm(self):
        self.assertEqual(harm(SINK, rows_of("xx 1/3 yx 1/3 yy 1/3")), THIRD)
        self.assertEqual(harm(SINK, rows_of("yx 1/6 xx 1/3 yx 1/6 yy 1/3")), THIRD)
        self.assertEqual(harm(SINK, rows_of("xy 1/3 yx 2/3")), TWO_THIRDS)
        self.assertEqual(harm(SWAY, rows_of("xx 1/3 xy 1/3 yy 1/3")), Ratio(0, 1))
        self.assertEqual(harm(FALL, rows_of("yx 1")), WHOLE)
        self.assertEqual(harm(SPLIT, rows_of("xy 1/4 xx 1/12 yx 2/3")), Ratio(0, 1))

    def test_the_list_is_new(self):
        joint(SINK).clear()
        self.assertEqual(joint(SINK), rows_of("xx 1/3 yx 1/3 yy 1/3"))


if __name__ == "__main__":
    unittest.main()
