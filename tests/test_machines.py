"""Points 5.1 to 5.7: machines."""

import unittest
from itertools import product

from helper import fraction, orders_up_to, raised
from onethrow.chances import Chance
from onethrow.errors import (BadName, BadNumber, BadText, DuplicateName, NotRising, ThrowError, UnknownName,
                             UnlikeOrders)
from onethrow.machines import Machine
from onethrow.orders import Order
from onethrow.ratios import Ratio

HALF, ONE, ZERO = Ratio(1, 2), Ratio(1, 1), Ratio(0, 1)
CHAIN = Order.chain("x", "y")
FORK = Order.read("x y z; x < y; x < z")
TURNED = Order.chain("y", "x")
SURE = {name: Chance.sure(name) for name in ("x", "y", "z", "q")}


def on_chain(text):
    return Machine.read(CHAIN, CHAIN, text)


def on_fork(text):
    return Machine.read(FORK, FORK, text)


RISING = on_chain("x: x 2 y 1; y: x 1 y 2")
FALLING = on_chain("x: y 1; y: x 1")


def some_machines(beginnings, standings):
    """Return the machines between two small orders that go along a map, or along one of two as likely."""
    along = [Machine.along(beginnings, standings, names) for names in product(standings, repeat=len(beginnings))]
    return along + [first.mixed(second, HALF) for first, second in zip(along, along[1:] + along[:1])]


class MadeTest(unittest.TestCase):
    def test_the_orders_are_attributes(self):
        machine = Machine(CHAIN, FORK, {"y": SURE["z"], "x": Chance({"x": 1, "y": 1})})
        self.assertEqual(machine.beginnings, CHAIN)
        self.assertEqual(machine.standings, FORK)
        self.assertEqual(sorted(name for name in vars(machine) if not name.startswith("_")),
                         ["beginnings", "standings"])

    def test_orders_of_one_name(self):
        one = Order(["q"], [])
        machine = Machine(one, one, {"q": SURE["q"]})
        self.assertIs(machine.is_rising(), True)
        self.assertEqual(str(machine), "q: q 1")

    def test_keys_that_are_no_beginnings(self):
        rows = {"y": SURE["x"], "x": SURE["x"], "z": SURE["x"], "p": SURE["q"]}
        self.assertEqual(raised(UnknownName, Machine, CHAIN, CHAIN, rows), {"name": "p"})
        self.assertEqual(raised(UnknownName, Machine, CHAIN, CHAIN, {"z": SURE["x"]}), {"name": "z"})
        self.assertEqual(raised(UnknownName, Machine, CHAIN, CHAIN, {"x": SURE["x"], "Y b": SURE["x"]}),
                         {"name": "Y b"})

    def test_beginnings_that_are_lacking(self):
        self.assertEqual(raised(BadNumber, Machine, CHAIN, CHAIN, {}), {"n": 0})
        self.assertEqual(raised(BadNumber, Machine, CHAIN, CHAIN, {"x": SURE["q"]}), {"n": 1})
        self.assertEqual(raised(BadNumber, Machine, FORK, CHAIN, {"x": SURE["q"], "z": SURE["q"]}), {"n": 2})

    def test_names_that_are_no_standings(self):
        rows = {"y": Chance({"p": 1, "x": 1}), "x": Chance({"z": 1, "y": 1, "q": 1})}
        self.assertEqual(raised(UnknownName, Machine, CHAIN, CHAIN, rows), {"name": "q"})
        rows["x"] = SURE["x"]
        self.assertEqual(raised(UnknownName, Machine, CHAIN, CHAIN, rows), {"name": "p"})
        self.assertEqual(raised(UnknownName, Machine, FORK, CHAIN, SURE | {"x": SURE["x"], "q": SURE["x"]}),
                         {"name": "q"})

    def test_names_without_a_share_may_be_anything(self):
        machine = Machine(CHAIN, CHAIN, {"x": Chance({"x": 1, "q": 0}), "y": Chance({"a": 0, "y": 3})})
        self.assertEqual(machine, Machine.still(CHAIN))

    def test_the_dictionary_is_copied_and_stays_as_it_is(self):
        rows = {"y": SURE["x"], "x": SURE["y"]}
        machine = Machine(CHAIN, CHAIN, rows)
        self.assertEqual(list(rows.items()), [("y", SURE["x"]), ("x", SURE["y"])])
        rows["x"] = SURE["q"]
        del rows["y"]
        self.assertEqual(str(machine), "x: y 1; y: x 1")


class AskedTest(unittest.TestCase):
    def test_row(self):
        self.assertEqual(RISING.row("x"), Chance({"x": 2, "y": 1}))
        self.assertEqual(RISING.row("y"), Chance({"x": 1, "y": 2}))

    def test_row_of_what_is_no_beginning(self):
        machine = Machine.along(CHAIN, FORK, ("z", "z"))
        for name in ("z", "q", "", "X y"):
            self.assertEqual(raised(UnknownName, machine.row, name), {"name": name})

    def test_rows_are_ascending_and_new(self):
        machine = Machine(FORK, CHAIN, {"z": SURE["x"], "x": SURE["y"], "y": Chance({"x": 1, "y": 1})})
        told = machine.rows()
        self.assertEqual(list(told.items()), [("x", SURE["y"]), ("y", Chance({"x": 1, "y": 1})), ("z", SURE["x"])])
        told["x"] = SURE["x"]
        del told["y"]
        told["q"] = SURE["q"]
        self.assertEqual(str(machine), "x: y 1; y: x 1 y 1; z: x 1")
        self.assertEqual(list(machine.rows()), ["x", "y", "z"])

    def test_equality(self):
        for other in (Machine(CHAIN, CHAIN, {"y": Chance({"y": 4, "x": 2}), "x": Chance({"y": 1, "x": 2})}),
                      on_chain("y: x 1 y 2; x: y 3 x 6")):
            self.assertIs(RISING == other, True)
            self.assertIs(RISING != other, False)
        rows = RISING.rows()
        for other in (Machine(TURNED, CHAIN, rows), Machine(CHAIN, TURNED, rows), Machine(CHAIN, FORK, rows),
                      on_chain("x: x 2 y 1; y: x 1 y 1"), on_chain("x: x 1 y 2; y: x 2 y 1"), FALLING):
            self.assertIs(RISING == other, False)
            self.assertIs(other == RISING, False)
            self.assertIs(RISING != other, True)

    def test_values_of_other_kinds_are_not_equal(self):
        for other in (RISING.rows(), str(RISING), None, 0, True, CHAIN, RISING.row("x"), (CHAIN, CHAIN), []):
            self.assertIs(RISING == other, False)
            self.assertIs(other == RISING, False)
            self.assertIs(RISING != other, True)


class SureMachineTest(unittest.TestCase):
    def test_still(self):
        for order in orders_up_to(3):
            machine = Machine.still(order)
            self.assertEqual([machine.beginnings, machine.standings], [order, order])
            self.assertEqual(machine.rows(), {name: Chance.sure(name) for name in order})
            self.assertIs(machine.is_rising(), True)

    def test_along(self):
        machine = Machine.along(CHAIN, FORK, ["z", "x"])
        self.assertEqual([machine.beginnings, machine.standings], [CHAIN, FORK])
        self.assertEqual(str(machine), "x: z 1; y: x 1")
        self.assertEqual(Machine.along(FORK, FORK, ("x", "y", "z")), Machine.still(FORK))
        self.assertEqual(str(Machine.along(TURNED, FORK, ("x", "y"))), "x: x 1; y: y 1")

    def test_along_a_list_of_another_length(self):
        for names in ([], ["x"], ["x", "x", "x"], ["q", "p", "x"], ["q"]):
            self.assertEqual(raised(BadNumber, Machine.along, CHAIN, FORK, names), {"n": len(names)})

    def test_along_strings_that_are_no_standings(self):
        self.assertEqual(raised(UnknownName, Machine.along, CHAIN, FORK, ["q", "p"]), {"name": "q"})
        self.assertEqual(raised(UnknownName, Machine.along, FORK, CHAIN, ("y", "z", "a")), {"name": "z"})
        self.assertEqual(raised(UnknownName, Machine.along, CHAIN, FORK, ["x", ""]), {"name": ""})

    def test_along_leaves_its_list(self):
        names = ["y", "x"]
        machine = Machine.along(CHAIN, CHAIN, names)
        self.assertEqual(names, ["y", "x"])
        names[0] = "x"
        self.assertEqual(machine, FALLING)


class RisingTest(unittest.TestCase):
    def test_a_rising_machine(self):
        self.assertIs(RISING.fault(), None)
        self.assertIs(RISING.is_rising(), True)
        self.assertIs(RISING.check(), None)

    def test_a_machine_that_is_not(self):
        self.assertEqual(FALLING.fault(), ("x", "y", ("y",)))
        self.assertIs(type(FALLING.fault()), tuple)
        self.assertIs(FALLING.is_rising(), False)
        self.assertEqual(raised(NotRising, FALLING.check), {"low": "x", "high": "y", "names": ["y"]})

    def test_the_first_cover_and_its_first_up_set(self):
        order = Order.chain("c", "b", "a")
        machine = Machine.along(order, order, ("c", "b", "a"))
        self.assertEqual(machine.fault(), ("b", "a", ("a", "b")))
        self.assertEqual(raised(NotRising, machine.check), {"low": "b", "high": "a", "names": ["a", "b"]})
        # The covers are b under a and c under b, and only the second one falls here.
        machine = Machine.along(order, order, ("b", "b", "a"))
        self.assertEqual(machine.fault(), ("c", "b", ("a",)))
        machine = on_fork("x: y 1 z 1; y: x 1; z: x 1")
        self.assertEqual(machine.fault(), ("x", "y", ("y",)))

    def test_only_an_up_set_of_several_names_shows_it(self):
        crown = Order.crown(2)
        machine = Machine.read(CHAIN, crown, "x: a1 1 b1 1; y: a2 1 b1 1")
        self.assertEqual(machine.fault(), ("x", "y", ("a1", "b1", "b2")))

    def test_beginnings_that_are_not_comparable(self):
        order = Order(["x", "y"], [])
        self.assertIs(Machine.read(order, CHAIN, "x: y 1; y: x 1").fault(), None)
        self.assertEqual(Machine.read(CHAIN, order, "x: y 1; y: x 1").fault(), ("x", "y", ("y",)))

    def test_all_comparable_beginnings_count_for_a_rising_machine(self):
        for beginnings in orders_up_to(3):
            for machine in some_machines(beginnings, FORK):
                rises = all(
                    fraction(machine.row(low).mass(names)) <= fraction(machine.row(high).mass(names))
                    for low, high in beginnings.pairs() for names in FORK.ups()
                )
                self.assertIs(machine.is_rising(), rises)
                self.assertIs(machine.fault() is None, rises)

    def test_the_names_of_the_error_may_be_changed(self):
        for _ in range(2):
            found = raised(NotRising, FALLING.check)
            self.assertEqual(found["names"], ["y"])
            found["names"].append("x")


class LedTest(unittest.TestCase):
    def test_led(self):
        self.assertEqual(str(RISING.led(Chance({"x": 1, "y": 1}))), "x 1 y 1")
        self.assertEqual(str(RISING.led(Chance({"x": 2, "y": 1}))), "x 5 y 4")
        self.assertEqual(RISING.led(Chance.sure("y")), RISING.row("y"))
        machine = Machine.read(CHAIN, FORK, "x: x 1 z 1; y: y 2 z 1")
        self.assertEqual(str(machine.led(Chance({"x": 1, "y": 3}))), "x 1 y 4 z 3")

    def test_sums_by_the_shares(self):
        for machine in some_machines(FORK, CHAIN):
            chance = Chance({"x": 1, "y": 2, "z": 4})
            for goal in CHAIN:
                wanted = sum(fraction(chance.share(name)) * fraction(machine.row(name).share(goal)) for name in FORK)
                self.assertEqual(fraction(machine.led(chance).share(goal)), wanted)

    def test_names_that_are_no_beginnings(self):
        machine = Machine.along(CHAIN, FORK, ("z", "z"))
        self.assertEqual(raised(UnknownName, machine.led, Chance({"z": 1, "x": 1, "q": 1})), {"name": "q"})
        self.assertEqual(raised(UnknownName, machine.led, Chance.sure("z")), {"name": "z"})
        self.assertEqual(machine.led(Chance({"x": 1, "q": 0})), Chance.sure("z"))


class ThenTest(unittest.TestCase):
    def test_then(self):
        first = Machine.read(CHAIN, FORK, "x: x 1; y: x 1 z 1")
        second = Machine.read(FORK, TURNED, "x: x 1 y 2; y: x 1; z: y 1")
        both = first.then(second)
        self.assertEqual([both.beginnings, both.standings], [CHAIN, TURNED])
        self.assertEqual(str(both), "x: x 1 y 2; y: x 1 y 5")

    def test_with_machines_that_stay(self):
        for machine in some_machines(CHAIN, FORK):
            self.assertEqual(Machine.still(CHAIN).then(machine), machine)
            self.assertEqual(machine.then(Machine.still(FORK)), machine)

    def test_rising_ones_give_a_rising_one(self):
        firsts = [machine for machine in some_machines(FORK, CHAIN) if machine.is_rising()]
        seconds = [machine for machine in some_machines(CHAIN, FORK) if machine.is_rising()]
        for first, second in product(firsts, seconds):
            self.assertIs(first.then(second).is_rising(), True)

    def test_orders_that_are_not_equal(self):
        first, second = Machine.along(CHAIN, FORK, ("x", "y")), Machine.along(CHAIN, TURNED, ("x", "y"))
        self.assertEqual(raised(UnlikeOrders, first.then, second), {"first": FORK, "second": CHAIN})
        self.assertEqual(raised(UnlikeOrders, second.then, second), {"first": TURNED, "second": CHAIN})


class PowerTest(unittest.TestCase):
    def test_power(self):
        self.assertEqual(RISING.power(0), Machine.still(CHAIN))
        self.assertEqual(RISING.power(1), RISING)
        self.assertEqual(str(RISING.power(2)), "x: x 5 y 4; y: x 4 y 5")
        self.assertEqual(str(RISING.power(3)), "x: x 14 y 13; y: x 13 y 14")

    def test_power_is_going_again_and_again(self):
        machine = on_fork("x: x 1 y 1; y: z 2 x 1; z: y 1")
        gone = Machine.still(FORK)
        for n in range(13):
            self.assertEqual(machine.power(n), gone)
            gone = gone.then(machine)

    def test_many_times(self):
        self.assertEqual(FALLING.power(10 ** 40), Machine.still(CHAIN))
        self.assertEqual(FALLING.power(10 ** 40 + 1), FALLING)
        self.assertEqual(RISING.power(200).row("x").share("x"), Ratio(3 ** 200 + 1, 2 * 3 ** 200))

    def test_powers_below_zero(self):
        for n in (-1, -2, -10 ** 40):
            self.assertEqual(raised(BadNumber, RISING.power, n), {"n": n})

    def test_orders_that_are_not_equal(self):
        machine = Machine.along(CHAIN, TURNED, ("x", "y"))
        for n in (0, 1, 5, -1):
            self.assertEqual(raised(UnlikeOrders, machine.power, n), {"first": CHAIN, "second": TURNED})

    def test_the_machine_stays_as_it_is(self):
        machine = on_chain("x: x 2 y 1; y: x 1 y 2")
        machine.power(5)
        machine.then(machine)
        self.assertEqual(machine, RISING)


class MixedTest(unittest.TestCase):
    def test_mixed(self):
        mixed = RISING.mixed(FALLING, Ratio(1, 4))
        self.assertEqual(str(mixed), "x: x 1 y 1; y: x 1 y 1")
        self.assertEqual(str(RISING.mixed(Machine.still(CHAIN), Ratio(1, 3))), "x: x 7 y 2; y: x 2 y 7")
        self.assertEqual([mixed.beginnings, mixed.standings], [CHAIN, CHAIN])

    def test_shares_of_zero_and_one(self):
        self.assertEqual(RISING.mixed(FALLING, ZERO), RISING)
        self.assertEqual(RISING.mixed(FALLING, ONE), FALLING)

    def test_shares_beyond(self):
        for share in (Ratio(-1, 7), Ratio(8, 7), Ratio(-2, 1), Ratio(10 ** 40 + 1, 10 ** 40)):
            self.assertEqual(raised(BadNumber, RISING.mixed, FALLING, share), {"n": share})

    def test_orders_that_are_not_equal(self):
        first = Machine.along(CHAIN, FORK, ("x", "y"))
        for share in (HALF, Ratio(2, 1)):
            second = Machine.along(TURNED, TURNED, ("x", "y"))
            self.assertEqual(raised(UnlikeOrders, first.mixed, second, share), {"first": CHAIN, "second": TURNED})
            second = Machine.along(CHAIN, TURNED, ("x", "y"))
            self.assertEqual(raised(UnlikeOrders, first.mixed, second, share), {"first": FORK, "second": TURNED})

    def test_rising_ones_give_a_rising_one(self):
        rising = [machine for machine in some_machines(CHAIN, FORK) if machine.is_rising()]
        for first, second in product(rising, repeat=2):
            self.assertIs(first.mixed(second, Ratio(2, 5)).is_rising(), True)


class PartTest(unittest.TestCase):
    machine = on_fork("x: y 1; y: x 1 z 2; z: z 1")

    def test_part(self):
        part = self.machine.part(["z", "x"])
        self.assertEqual(part.beginnings, Order.chain("x", "z"))
        self.assertEqual(part.standings, FORK)
        self.assertEqual(str(part), "x: y 1; z: z 1")
        self.assertEqual(self.machine.part(("z", "y", "x")), self.machine)
        self.assertEqual(str(self.machine.part(["y"])), "y: x 1 z 2")

    def test_a_part_may_rise(self):
        self.assertEqual(self.machine.fault(), ("x", "y", ("y",)))
        self.assertEqual(self.machine.part(["x", "y"]).fault(), ("x", "y", ("y",)))
        self.assertIs(self.machine.part(["y", "z"]).fault(), None)

    def test_comparable_names_without_those_between(self):
        order = Order.chain("a", "b", "c")
        machine = Machine.along(order, CHAIN, ("y", "y", "x"))
        self.assertEqual(machine.part(["c", "a"]).fault(), ("a", "c", ("y",)))

    def test_wrong_names(self):
        self.assertEqual(raised(BadNumber, self.machine.part, []), {"n": 0})
        self.assertEqual(raised(UnknownName, self.machine.part, ["x", "q", "x"]), {"name": "q"})
        self.assertEqual(raised(DuplicateName, self.machine.part, ("x", "y", "x", "q")), {"name": "x"})

    def test_the_list_stays_as_it_is(self):
        names = ["z", "x"]
        self.machine.part(names)
        self.assertEqual(names, ["z", "x"])


class TurnedTest(unittest.TestCase):
    def test_turned(self):
        machine = Machine.read(CHAIN, FORK, "x: x 1; y: y 1 z 2")
        turned = machine.turned()
        self.assertEqual([turned.beginnings, turned.standings], [TURNED, FORK.turned()])
        self.assertEqual(turned.rows(), machine.rows())
        self.assertEqual(turned.turned(), machine)

    def test_it_rises_exactly_if_the_machine_does(self):
        kinds = set()
        for machine in some_machines(FORK, CHAIN) + some_machines(FORK, FORK):
            self.assertIs(machine.turned().is_rising(), machine.is_rising())
            kinds.add(machine.is_rising())
        self.assertEqual(kinds, {True, False})


class TextTest(unittest.TestCase):
    def test_texts_that_are_written(self):
        self.assertEqual(str(RISING), "x: x 2 y 1; y: x 1 y 2")
        self.assertEqual(str(Machine.still(FORK)), "x: x 1; y: y 1; z: z 1")
        self.assertEqual(str(Machine(CHAIN, CHAIN, {"y": Chance({"y": 6, "x": 4}), "x": SURE["y"]})),
                         "x: y 1; y: x 2 y 3")

    def test_what_is_written_is_read(self):
        for beginnings, standings in product([CHAIN, FORK, Order(["q"], [])], repeat=2):
            for machine in some_machines(beginnings, standings):
                self.assertEqual(Machine.read(beginnings, standings, str(machine)), machine)

    def test_parts_in_any_order(self):
        machine = Machine.read(FORK, CHAIN, "z: y 20 x 10; x: x 1; y: y 3")
        self.assertEqual([machine.beginnings, machine.standings], [FORK, CHAIN])
        self.assertEqual(str(machine), "x: x 1; y: y 1; z: x 1 y 2")

    def refused(self, texts, at):
        for text in texts:
            with self.subTest(text):
                self.assertEqual(raised(BadText, Machine.read, CHAIN, CHAIN, text), {"at": at})

    def test_first_parts_without_a_word_and_a_colon(self):
        self.refused(["", " ", "x", "x x 1", "x:x 1", "x : x 1", ": x 1", " : x 1", " x: x 1", "x y: x 1", "x:", ":",
                      "; ", "; x: x 1", ": ", "x 1: x 1", "x:x 1; y: y 1"], 0)

    def test_first_parts_without_a_chance(self):
        self.refused(["x: ", "x: x", "x:  x 1", "x: x  1", "x: x 1 ", "x: x 0", "x: x 01", "x: x -1", "x: x x",
                      "x: x 1 y", "x: x 1 y 02", "x: x 1;", "x: x 1;y: y 1", "x: : x 1", "x: x 1 ; y: y 1",
                      "x: x 1, y: y 1", "x: x " + "1" * 31, "q: Q; Q: q", "x: x:"], 0)

    def test_later_parts(self):
        self.refused(["x: x 1; ", "x: x 1; y", "x: x 1; y: y", "x: x 1; y: ", "x: x 1;  y: y 1", "y: x 1; x x 1",
                      "x: x 1; y: y 0; z", "q: Q 1; q: Q", "x: x 1; y: y 1;", "x: x 1; : y 1"], 1)
        self.refused(["x: x 1; y: y 1; ", "x: x 1; x: x 1; x", "q: x 1; p: Q 1; o: 1"], 2)

    def test_words_may_contain_colons_and_semicolons(self):
        for word in (":", "x:", "x;y", ";", "x;", "x:y", "X", "x<", "Q.~"):
            text = f"x: x 1; {word}: Z 1"
            self.assertEqual(raised(UnknownName, Machine.read, CHAIN, CHAIN, text), {"name": word})
        self.assertEqual(raised(BadName, Machine.read, CHAIN, CHAIN, "x: x: 1; y: q 1"), {"name": "x:"})

    def test_parts_are_checked_one_by_one(self):
        for text, kind, name in [
            ("x: x 1; q: x 1; x: x 1", UnknownName, "q"), ("x: x 1; x: x 1; q: x 1", DuplicateName, "x"),
            ("q: x 1; q: x 1", UnknownName, "q"), ("x: x 1; y: y 1; y: y 1; z: x 1", DuplicateName, "y"),
            ("x: X 1; q: x 1", UnknownName, "q"), ("x: q 1; x: X 1", DuplicateName, "x"),
        ]:
            self.assertEqual(raised(kind, Machine.read, CHAIN, CHAIN, text), {"name": name})

    def test_beginnings_that_are_lacking(self):
        self.assertEqual(raised(BadNumber, Machine.read, CHAIN, CHAIN, "y: X 1 X 1"), {"n": 1})
        self.assertEqual(raised(BadNumber, Machine.read, FORK, CHAIN, "z: x 1; x: q 1"), {"n": 2})

    def test_chances_that_are_wrong(self):
        for text, kind, name in [
            ("y: q 1; x: x 1 X 1", BadName, "X"), ("y: x 1 y 1 x 2 Y 1; x: X 1", DuplicateName, "x"),
            ("y: Y 1 y 1 y 1; x: X 1", BadName, "Y"), ("y: abcdefghi 1; x: x 1", BadName, "abcdefghi"),
        ]:
            self.assertEqual(raised(kind, Machine.read, CHAIN, CHAIN, text), {"name": name})

    def test_standings_that_are_unknown(self):
        self.assertEqual(raised(UnknownName, Machine.read, CHAIN, CHAIN, "y: p 1; x: x 1 z 1 q 1"), {"name": "q"})
        self.assertEqual(raised(UnknownName, Machine.read, CHAIN, CHAIN, "y: p 1; x: x 1"), {"name": "p"})

    def test_each_error_is_one_of_the_program(self):
        for text in ("", "x: x 1", "x: q 1; y: y 1", "x: X 1; y: y 1"):
            with self.assertRaises(ThrowError):
                Machine.read(CHAIN, CHAIN, text)

    def test_the_same_question_gives_the_same_answer(self):
        machine = on_fork("x: x 1 y 1; y: y 1 z 1; z: z 2")
        asked = [machine.fault, machine.is_rising, machine.rows, lambda: machine.power(3), lambda: str(machine),
                 machine.turned, lambda: machine.part(["x", "z"]), lambda: machine.mixed(machine, HALF)]
        self.assertEqual([ask() for ask in asked], [ask() for ask in asked])


if __name__ == "__main__":
    unittest.main()
