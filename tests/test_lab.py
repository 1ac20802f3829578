"""Points 14.1 to 14.4: a machine told row by row."""

import unittest
from fractions import Fraction

from helper import fraction, raised, some_numbers
from onethrow.chances import Chance
from onethrow.errors import NoThrow, NothingToUndo, UnknownName
from onethrow.lab import Lab
from onethrow.machines import Machine
from onethrow.orders import Order
from onethrow.ratios import Ratio
from onethrow.throws import is_throw, rising_share

ONE = Order(["q"], [])
CHAIN = Order.chain("x", "y", "z")
FORK = Order.read("x y z; x < y; x < z")
SQUARE = Order.read("t x y z; x < y; x < z; y < t; z < t")
CROWN = Order.crown(2)
WHOLE, ZERO, HALF = Ratio(1, 1), Ratio(0, 1), Ratio(1, 2)
EMPTY = [((), WHOLE)]


def lab_of(beginnings, standings, text):
    """Return a lab to which the chances of a text are told, one behind the other."""
    lab = Lab(beginnings, standings)
    for part in text.split("; "):
        name, told = part.split(": ")
        lab.tell(name, Chance.read(told))
    return lab


def state(lab):
    """Return all that a lab tells of itself."""
    return [lab.told(), lab.untold(), len(lab), lab.machine(), lab.fault(), str(lab.share())]


class TellTest(unittest.TestCase):
    def test_rows_are_told(self):
        lab = Lab(CHAIN, FORK)
        self.assertIs(lab.tell("z", Chance.sure("y")), None)
        self.assertIs(lab.tell("x", Chance.read("x 1 z 1")), None)
        self.assertEqual(list(lab.told().items()), [("x", Chance.read("x 1 z 1")), ("z", Chance.sure("y"))])
        self.assertEqual([lab.untold(), len(lab)], [["y"], 2])

    def test_a_row_told_again(self):
        lab = lab_of(CHAIN, FORK, "x: x 1; y: y 1; x: z 1")
        self.assertEqual(lab.told(), {"x": Chance.sure("z"), "y": Chance.sure("y")})
        self.assertEqual(len(lab), 3)
        # To tell the same again is a deed as well.
        lab.tell("x", Chance.sure("z"))
        self.assertEqual(len(lab), 4)

    def test_wrong_names(self):
        lab = lab_of(CHAIN, FORK, "x: x 1")
        before = state(lab)
        for name, chance, wrong in [("q", Chance.sure("x"), "q"), ("", Chance.sure("p"), ""),
                                    ("x", Chance.read("x 1 q 1 p 1"), "p"), ("y", Chance.sure("a"), "a")]:
            self.assertEqual(raised(UnknownName, lab.tell, name, chance), {"name": wrong})
            self.assertEqual(raised(UnknownName, lab.fits, name, chance), {"name": wrong})
            self.assertEqual(state(lab), before)

    def test_beginnings_are_no_standings(self):
        lab = Lab(ONE, FORK)
        self.assertEqual(raised(UnknownName, lab.tell, "x", Chance.sure("x")), {"name": "x"})
        self.assertEqual(raised(UnknownName, lab.tell, "q", Chance.sure("q")), {"name": "q"})
        lab.tell("q", Chance.sure("z"))
        self.assertEqual(lab.untold(), [])


class ForgetTest(unittest.TestCase):
    def test_a_row_taken_out(self):
        lab = lab_of(CHAIN, FORK, "x: x 1; y: y 1")
        self.assertIs(lab.forget("x"), None)
        self.assertEqual([lab.told(), lab.untold(), len(lab)], [{"y": Chance.sure("y")}, ["x", "z"], 3])
        lab.forget("y")
        self.assertEqual([lab.told(), lab.untold(), len(lab), lab.machine()], [{}, ["x", "y", "z"], 4, None])

    def test_rows_that_are_not_told(self):
        lab = lab_of(CHAIN, FORK, "x: x 1; y: y 1")
        lab.forget("y")
        before = state(lab)
        for name in ("y", "z", "q", ""):
            self.assertEqual(raised(UnknownName, lab.forget, name), {"name": name})
            self.assertEqual(state(lab), before)
        self.assertEqual(raised(UnknownName, Lab(CHAIN, FORK).forget, "x"), {"name": "x"})


class UndoTest(unittest.TestCase):
    def test_deeds_are_taken_back_one_by_one(self):
        lab = Lab(CHAIN, FORK)
        states = [state(lab)]
        for deed in (lambda: lab.tell("x", Chance.sure("y")), lambda: lab.tell("y", Chance.read("x 1 y 2")),
                     lambda: lab.tell("x", Chance.sure("z")), lambda: lab.forget("x"), lambda: lab.forget("y"),
                     lambda: lab.tell("z", Chance.sure("x"))):
            deed()
            states.append(state(lab))
        self.assertEqual([told[2] for told in states], [0, 1, 2, 3, 4, 5, 6])
        for wanted in states[-2::-1]:
            self.assertIs(lab.undo(), None)
            self.assertEqual(state(lab), wanted)
        self.assertEqual(raised(NothingToUndo, lab.undo), {})
        self.assertEqual(state(lab), states[0])

    def test_new_deeds_behind_an_undo(self):
        lab = lab_of(CHAIN, FORK, "x: x 1; y: y 1")
        lab.undo()
        lab.tell("z", Chance.sure("z"))
        self.assertEqual([lab.told(), len(lab)], [{"x": Chance.sure("x"), "z": Chance.sure("z")}, 2])
        lab.undo()
        lab.undo()
        self.assertEqual(raised(NothingToUndo, lab.undo), {})

    def test_calls_that_raise_errors_are_no_deeds(self):
        lab = lab_of(CHAIN, FORK, "x: x 1")
        raised(UnknownName, lab.tell, "q", Chance.sure("x"))
        raised(UnknownName, lab.forget, "y")
        lab.fits("y", Chance.sure("x"))
        lab.bounds("y", ["x"])
        self.assertEqual(len(lab), 1)
        lab.undo()
        self.assertEqual(state(lab), state(Lab(CHAIN, FORK)))


class MachineTest(unittest.TestCase):
    def test_the_machine_of_what_is_told(self):
        lab = lab_of(SQUARE, FORK, "t: z 1; x: x 2 z 1")
        machine = lab.machine()
        self.assertEqual(machine, Machine.read(Order.chain("x", "t"), FORK, "x: x 2 z 1; t: z 1"))
        self.assertEqual(machine.standings, FORK)
        lab.tell("y", Chance.sure("y"))
        self.assertEqual(lab.machine().beginnings, SQUARE.part(["t", "x", "y"]))
        # The machine of before stays as it is.
        self.assertEqual(len(machine.beginnings), 2)

    def test_nothing_told(self):
        lab = Lab(CHAIN, FORK)
        self.assertEqual([lab.told(), lab.untold(), lab.machine(), lab.fault(), lab.share(), lab.throw(), len(lab)],
                         [{}, ["x", "y", "z"], None, None, WHOLE, EMPTY, 0])
        self.assertEqual([type(lab.share()), type(lab.throw()[0]), type(lab.throw())], [Ratio, tuple, list])

    def test_fault(self):
        lab = lab_of(CHAIN, CHAIN, "x: y 1; z: x 1 z 1")
        self.assertEqual(lab.fault(), ("x", "z", ("y", "z")))
        lab.tell("y", Chance.sure("y"))
        self.assertEqual(lab.fault(), ("y", "z", ("y", "z")))
        lab.tell("z", Chance.sure("y"))
        self.assertIs(lab.fault(), None)

    def test_what_is_returned_is_new(self):
        lab = lab_of(CHAIN, FORK, "x: x 1")
        before = state(lab)
        lab.told().clear()
        lab.told()["q"] = None
        lab.untold().clear()
        lab.throw().clear()
        lab.machine().rows().clear()
        self.assertEqual(state(lab), before)
        nothing = Lab(CHAIN, FORK)
        nothing.throw().clear()
        self.assertEqual(nothing.throw(), EMPTY)

    def test_labs_have_nothing_in_common(self):
        first, second = Lab(CHAIN, FORK), Lab(CHAIN, FORK)
        first.tell("x", Chance.sure("x"))
        self.assertEqual([len(first), len(second), second.told()], [1, 0, {}])


class ShareTest(unittest.TestCase):
    ROWS = "a1: a1 1 a2 1 b1 1; a2: a1 1 a2 1 b2 1; b1: a1 1 b1 1 b2 1; b2: a2 1 b1 1 b2 1"

    def test_share_and_throw(self):
        lab = Lab(CROWN, CROWN)
        for part in self.ROWS.split("; ")[:3]:
            name, told = part.split(": ")
            lab.tell(name, Chance.read(told))
            self.assertEqual(lab.share(), WHOLE)
            self.assertIs(is_throw(lab.machine(), lab.throw()), True)
        lab.tell("b2", Chance.read("a2 1 b1 1 b2 1"))
        self.assertIs(lab.fault(), None)
        self.assertEqual(lab.share(), Ratio(8, 9))
        self.assertEqual(raised(NoThrow, lab.throw), {})
        lab.forget("a1")
        self.assertEqual(lab.share(), WHOLE)
        lab.undo()
        self.assertEqual(lab.share(), Ratio(8, 9))

    def test_a_machine_that_is_not_rising(self):
        lab = lab_of(CHAIN, CHAIN, "x: y 1; z: x 1 z 1")
        self.assertEqual([lab.share(), rising_share(lab.machine())], [HALF, HALF])
        self.assertEqual(raised(NoThrow, lab.throw), {})

    def test_the_share_becomes_only_less(self):
        numbers = some_numbers(400, 4)
        orders = [(CHAIN, FORK), (SQUARE, SQUARE), (CROWN, CHAIN), (FORK, CROWN)]
        for at, (beginnings, standings) in enumerate(orders * 3):
            lab, before = Lab(beginnings, standings), WHOLE
            for place, name in enumerate(beginnings):
                weights = numbers[at * 20 + place * 5:][:len(standings)]
                lab.tell(name, Chance({**dict(zip(standings, weights)), standings.names[-1]: 1 + weights[-1]}))
                self.assertIs(before.under(lab.share()), False)
                before = lab.share()
                self.assertEqual(before, rising_share(lab.machine()))


class FitsTest(unittest.TestCase):
    def test_fits(self):
        lab = lab_of(CHAIN, CHAIN, "x: x 1 y 1; z: y 1 z 3")
        before = state(lab)
        for text, wanted in [("x 1", False), ("x 1 y 1", True), ("y 1", True), ("z 1", False), ("y 1 z 3", True),
                             ("x 1 z 1", True), ("x 1 z 3", True), ("x 2 z 1", False), ("y 1 z 4", False)]:
            self.assertIs(lab.fits("y", Chance.read(text)), wanted)
            self.assertEqual(state(lab), before)

    def test_in_the_place_of_an_older_one(self):
        lab = lab_of(CHAIN, CHAIN, "x: z 1; y: y 1")
        self.assertIs(lab.fits("x", Chance.sure("z")), False)
        self.assertIs(lab.fits("x", Chance.sure("y")), True)
        self.assertIs(lab.fits("z", Chance.sure("z")), False)
        self.assertEqual(lab.told()["x"], Chance.sure("z"))

    def test_nothing_told(self):
        self.assertIs(Lab(CHAIN, CHAIN).fits("y", Chance.sure("x")), True)


class BoundsTest(unittest.TestCase):
    def test_bounds(self):
        lab = lab_of(CHAIN, CHAIN, "x: x 1 y 1; z: y 1 z 3")
        self.assertEqual(lab.bounds("y", ["y"]), (HALF, WHOLE))
        self.assertEqual(lab.bounds("y", ["z"]), (ZERO, Ratio(3, 4)))
        self.assertEqual(lab.bounds("y", ("z", "y")), (HALF, WHOLE))
        self.assertEqual(lab.bounds("y", ["z", "z"]), (ZERO, Ratio(3, 4)))
        self.assertEqual(lab.bounds("y", ["x"]), (WHOLE, WHOLE))
        # A row that is told bounds its own beginning from both sides.
        self.assertEqual(lab.bounds("x", ["y"]), (HALF, HALF))
        self.assertEqual(lab.bounds("z", ["z"]), (Ratio(3, 4), Ratio(3, 4)))

    def test_an_empty_wish(self):
        lab = lab_of(CHAIN, CHAIN, "x: x 1 y 1")
        self.assertEqual(lab.bounds("y", []), (ZERO, WHOLE))
        self.assertEqual(lab.bounds("x", []), (ZERO, ZERO))
        lab.tell("z", Chance.sure("z"))
        self.assertEqual(lab.bounds("y", ()), (ZERO, ZERO))

    def test_nothing_told(self):
        lab = Lab(CHAIN, FORK)
        for wish in ([], ["x"], ["y", "z"]):
            bounds = lab.bounds("y", wish)
            self.assertEqual([type(bounds), bounds], [tuple, (ZERO, WHOLE)])

    def test_only_what_is_comparable_counts(self):
        lab = lab_of(FORK, FORK, "y: y 1; z: x 1 z 1")
        self.assertEqual(lab.bounds("x", ["y"]), (ZERO, ZERO))
        self.assertEqual(lab.bounds("x", ["z"]), (ZERO, ZERO))
        self.assertEqual(lab.bounds("x", ["z", "y"]), (ZERO, HALF))
        self.assertEqual(lab.bounds("y", ["z"]), (ZERO, ZERO))
        self.assertEqual(lab.bounds("z", ["y"]), (ZERO, ZERO))
        lab = lab_of(FORK, FORK, "y: y 1")
        self.assertEqual(lab.bounds("z", ["y"]), (ZERO, WHOLE))

    def test_low_above_high(self):
        lab = lab_of(CHAIN, CHAIN, "x: z 1; z: x 1 z 1")
        self.assertEqual(lab.bounds("y", ["z"]), (WHOLE, HALF))
        self.assertEqual(lab.bounds("x", ["z"]), (WHOLE, HALF))

    def test_bounds_by_all_rows(self):
        numbers = some_numbers(500, 3)
        for at, (beginnings, standings) in enumerate([(SQUARE, CROWN), (CROWN, SQUARE), (CHAIN, FORK)] * 4):
            lab, told = Lab(beginnings, standings), {}
            for place, name in enumerate(beginnings.names[at % 2:]):
                weights = numbers[at * 20 + place * 5:][:len(standings)]
                told[name] = Chance({**dict(zip(standings, weights)), standings.names[0]: 1 + weights[0]})
                lab.tell(name, told[name])
            for name in beginnings:
                for names in [[], *[[goal] for goal in standings], list(standings.names[1:3])]:
                    wished = [goal for goal in standings if any(standings.below(low, goal) for low in names)]
                    mass = {other: sum(fraction(told[other].share(goal)) for goal in wished) for other in told}
                    low = max([mass[other] for other in mass if beginnings.below(other, name)], default=Fraction(0))
                    high = min([mass[other] for other in mass if beginnings.below(name, other)], default=Fraction(1))
                    self.assertEqual([fraction(bound) for bound in lab.bounds(name, names)], [low, high])

    def test_wrong_names(self):
        lab = lab_of(CHAIN, FORK, "x: x 1")
        for name, wish, wrong in [("q", ["p"], "q"), ("", [], ""), ("x", ["y", "q", "p"], "q"), ("y", ("",), "")]:
            self.assertEqual(raised(UnknownName, lab.bounds, name, wish), {"name": wrong})
        self.assertEqual(len(lab), 1)

    def test_the_wish_stays_as_it_is(self):
        wish = ["z", "y", "z"]
        lab_of(CHAIN, FORK, "x: x 1").bounds("y", wish)
        self.assertEqual(wish, ["z", "y", "z"])


if __name__ == "__main__":
    unittest.main()
