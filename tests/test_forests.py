"""Points 10.1 to 10.5: throws along a forest."""

import unittest
from fractions import Fraction
from itertools import accumulate

from helper import fraction, orders_up_to, raised, rises, rising_sum, shares_of, some_numbers, used_up
from onethrow.chances import Chance
from onethrow.errors import BadShares, HasRing, NotRising
from onethrow.forests import dealt, forest_throw, growth, joint_along, spanning
from onethrow.machines import Machine
from onethrow.orders import Order
from onethrow.pictures import is_forest, ring
from onethrow.ratios import Ratio
from onethrow.throws import is_joint, is_throw

ONE = Order(["q"], [])
CHAIN = Order.chain("x", "y")
FORK = Order.read("x y z; x < y; x < z")
SQUARE = Order.read("t x y z; x < y; x < z; y < t; z < t")
ZIGZAG = Order.read("a b c d; a < c; b < c; b < d")
# Three pieces, one of them with a ring.
PIECES = Order.read("a b c d e f g h; h < b; h < c; b < e; c < e; g < a; d < g")
CROWN = Order.crown(2)
WEB = Machine.read(
    CROWN, CROWN, "a1: a1 1 a2 1 b1 1; a2: a1 1 a2 1 b2 1; b1: a1 1 b1 1 b2 1; b2: a2 1 b1 1 b2 1")
BOX = Machine.read(SQUARE, SQUARE, "x: x 1 y 1; y: y 1 z 1; z: x 1 t 1; t: y 1 t 1")
FALL = Machine.read(CHAIN, CHAIN, "x: y 1; y: x 1")
SOME = orders_up_to(4)[::3] + [SQUARE, CROWN, ZIGZAG, PIECES, Order.crown(4), Order.chain(*"hgfedcba")]
HALF, THIRD = Ratio(1, 2), Ratio(1, 3)


def piece_of(order, pairs, name):
    """Return all names that some pairs join to a name."""
    found = {name}
    for _ in order.names:
        found = found | {other for pair in pairs for other in pair if found & set(pair)}
    return found


def rising_machines():
    """Return rising machines between several orders: what is higher weighs more on the upper steps of a ladder."""
    beginnings = [ONE, CHAIN, FORK, FORK.turned(), SQUARE, ZIGZAG, CROWN, PIECES, Order.crown(3), *orders_up_to(3)[::4]]
    numbers = some_numbers(100, 5)
    found = []
    for at, order in enumerate(beginnings):
        for standings, ladder in ((SQUARE, "xyt"), (FORK, "xz"), (ZIGZAG, "bd"), (Order.chain(*"abcd"), "abcd")):
            rows = {}
            for name in order:
                height = sum(order.below(other, name) for other in order)
                rows[name] = Chance({goal: height * (1 + numbers[at + step]) if step else 2
                                     for step, goal in enumerate(ladder)})
            machine = Machine(order, standings, rows)
            # The third name of the standings is above the foot of each ladder.
            names = [standings.names[2] if name in order.ups()[len(order.ups()) // 2] else ladder[0] for name in order]
            found.append(machine)
            found.append(machine.mixed(Machine.along(order, standings, names), Ratio(1, 3)))
    return found


RISING = rising_machines() + [
    WEB, BOX, WEB.turned(), BOX.turned(), Machine.still(PIECES), Machine.still(ZIGZAG), WEB.part(["a1", "b2", "b1"]),
    Machine.read(ZIGZAG, FORK, "a: x 1 y 2; b: x 5 z 1; c: y 4 z 1 x 1; d: x 1 z 1"),
    Machine.read(FORK, ZIGZAG, "x: a 1 b 1; y: c 1 a 1 d 1; z: d 1 b 1 c 2"),
    Machine.read(Order(["x", "y", "z"], []), FORK, "x: x 1 y 2; y: z 1 x 4; z: x 1 y 1 z 1"),
]


class SpanningTest(unittest.TestCase):
    def test_spanning(self):
        self.assertEqual(spanning(CROWN), [("a1", "b1"), ("a1", "b2"), ("a2", "b1")])
        self.assertEqual(spanning(ZIGZAG), [("a", "c"), ("b", "c"), ("b", "d")])
        self.assertEqual(spanning(SQUARE), [("x", "y"), ("x", "z"), ("y", "t")])
        self.assertEqual(spanning(PIECES), [("b", "e"), ("c", "e"), ("d", "g"), ("g", "a"), ("h", "b")])
        self.assertEqual(spanning(ONE), [])
        self.assertEqual(spanning(Order(["a", "b"], [])), [])
        # x under t is no cover.
        self.assertEqual(spanning(Order.read("t x y; x < y; y < t; x < t")), [("x", "y"), ("y", "t")])

    def test_what_is_kept_of_all_orders(self):
        for order in SOME:
            kept = spanning(order)
            self.assertEqual(kept, [pair for pair in order.covers() if pair in kept])
            for at, (low, high) in enumerate(order.covers()):
                earlier = [pair for pair in order.covers()[:at] if pair in kept]
                self.assertIs((low, high) in kept, high not in piece_of(order, earlier, low))
            for name in order:
                self.assertEqual(piece_of(order, kept, name), piece_of(order, order.covers(), name))
            self.assertIs(kept == order.covers(), is_forest(order))

    def test_the_list_is_new(self):
        spanning(ZIGZAG).clear()
        self.assertEqual(spanning(ZIGZAG), ZIGZAG.covers())


class GrowthTest(unittest.TestCase):
    def test_growth(self):
        self.assertEqual(growth(ZIGZAG), [("a", None), ("c", "a"), ("b", "c"), ("d", "b")])
        self.assertEqual(growth(CROWN), [("a1", None), ("b1", "a1"), ("a2", "b1"), ("b2", "a1")])
        self.assertEqual(growth(ONE), [("q", None)])
        self.assertEqual(growth(Order(["b", "a", "c"], [])), [("a", None), ("b", None), ("c", None)])
        self.assertEqual(growth(PIECES), [("a", None), ("g", "a"), ("d", "g"), ("b", None), ("e", "b"), ("c", "e"),
                                          ("h", "b"), ("f", None)])
        # d is joined to the known c, although b is less and not joined to anything yet.
        self.assertEqual(growth(Order.read("a b c d; a < c; c < d; b < d")),
                         [("a", None), ("c", "a"), ("d", "c"), ("b", "d")])

    def test_growth_of_all_orders(self):
        for order in SOME:
            kept, grown = spanning(order), []
            for name, known in growth(order):
                beside = {other: base for pair in kept for other, base in (pair, pair[::-1])
                          if base in grown and other not in grown}
                alone = [other for other in order if other not in grown]
                least = min(beside) if beside else alone[0]
                self.assertEqual((name, known), (least, beside.get(least)))
                grown.append(name)
            self.assertEqual(sorted(grown), list(order.names))

    def test_the_list_is_new(self):
        growth(CHAIN).clear()
        self.assertEqual(growth(CHAIN), [("x", None), ("y", "x")])


class DealtTest(unittest.TestCase):
    def deal(self, first, second):
        """Return what is dealt, with texts in the place of shares, for texts of things and shares."""
        rows = dealt(*[[(word[0], Ratio.read(word[1:])) for word in text.split()] for text in (first, second)])
        return " ".join(f"{one}{other}{share}" for one, other, share in rows)

    def test_dealt(self):
        self.assertEqual(self.deal("x1/2 y1/2", "p1/3 q2/3"), "xp1/3 xq1/6 yq1/2")
        self.assertEqual(self.deal("x1", "p1/3 q1/3 r1/3"), "xp1/3 xq1/3 xr1/3")
        self.assertEqual(self.deal("x1/3 y1/3 z1/3", "p1"), "xp1/3 yp1/3 zp1/3")
        self.assertEqual(self.deal("x1/2 y1/2", "p1/2 q1/2"), "xp1/2 yq1/2")
        self.assertEqual(self.deal("x1/2 y1/3 z1/6", "p1/6 q1/3 r1/2"), "xp1/6 xq1/3 yr1/3 zr1/6")
        self.assertEqual(self.deal("x2 y3/2", "p3 q1/4 r1/4"), "xp2 yp1 yq1/4 yr1/4")
        self.assertEqual(self.deal("x7/5", "p7/5"), "xp7/5")

    def test_no_things(self):
        self.assertEqual(dealt([], []), [])
        self.assertEqual(dealt((), ()), [])

    def test_things_that_come_twice(self):
        self.assertEqual(self.deal("x1/4 x1/4 y1/2", "p1/2 p1/2"), "xp1/4 xp1/4 yp1/2")
        self.assertEqual(self.deal("x1/3 y1/3 x1/3", "p1/2 q1/2"), "xp1/3 yp1/6 yq1/6 xq1/3")
        self.assertEqual(self.deal("x1", "p1/2 p1/2"), "xp1/2 xp1/2")

    def test_things_of_any_kind(self):
        rows = dealt([([1], HALF), (None, HALF)], [({}, THIRD), (ONE, Ratio(2, 3))])
        self.assertEqual(rows, [([1], {}, THIRD), ([1], ONE, Ratio(1, 6)), (None, ONE, HALF)])
        self.assertEqual({type(row) for row in rows}, {tuple})

    def test_tuples_instead_of_lists(self):
        rows = dealt((("x", HALF), ("y", HALF)), ((1, THIRD), (2, Ratio(2, 3))))
        self.assertEqual(rows, [("x", 1, THIRD), ("x", 2, Ratio(1, 6)), ("y", 2, HALF)])

    def test_many_things(self):
        numbers = some_numbers(200, 9)
        for size in (1, 2, 7, 40):
            first = [(at, Ratio(1 + number, size)) for at, number in enumerate(numbers[:size])]
            second = [(at, Ratio(1 + number, 7)) for at, number in enumerate(numbers[100:100 + size])]
            lacking = sum(fraction(share) for _, share in first) - sum(fraction(share) for _, share in second)
            more = Ratio(abs(lacking.numerator), lacking.denominator)
            if lacking:
                (second if lacking > 0 else first).append(("more", more))
            rows = dealt(first, second)
            self.assertTrue(all(share.top > 0 for _, _, share in rows))
            # Each thing has its share between the same marks on a line as before.
            ends = list(accumulate(fraction(share) for _, _, share in rows))
            for things, place in ((first, 0), (second, 1)):
                marks = list(accumulate(fraction(share) for _, share in things))
                self.assertLessEqual(set(marks), set(ends))
                for end, row in zip(ends, rows):
                    at = [mark >= end for mark in marks].index(True)
                    self.assertEqual(row[place], things[at][0])
            self.assertEqual(len(ends), len(set(ends)))
            self.assertLessEqual(len(rows), len(first) + len(second) - 1)

    def test_unequal_sums(self):
        for first, second, wanted in [("x1/2", "p1/3", "1/3"), ("x1/2 y1/2", "p1/3 q1/3", "2/3"), ("x1/2", "", "0"),
                                      ("", "p1/2 q1/3", "5/6"), ("x1/3", "p1/3 q1/100", "103/300")]:
            told = [[(word[0], Ratio.read(word[1:])) for word in text.split()] for text in (first, second)]
            error = raised(BadShares, dealt, *told)
            self.assertEqual([str(error["total"]), list(error)], [wanted, ["total"]])

    def test_what_is_passed_stays_as_it_is(self):
        first, second = [("x", HALF), ("y", HALF)], [(1, THIRD), (2, Ratio(2, 3))]
        dealt(first, second).clear()
        dealt(second, first)
        self.assertEqual(first, [("x", HALF), ("y", HALF)])
        self.assertEqual(second, [(1, THIRD), (2, Ratio(2, 3))])


class JointAlongTest(unittest.TestCase):
    def test_joint_tables_of_rising_machines(self):
        for machine in RISING:
            with self.subTest(machine=str(machine)):
                self.assertIs(machine.is_rising(), True)
                rows = joint_along(machine)
                self.assertEqual(used_up(machine, rows), shares_of(machine))
                self.assertIs(is_joint(machine, rows), True)
                places = {name: at for at, name in enumerate(machine.beginnings)}
                for low, high in spanning(machine.beginnings):
                    for names, _ in rows:
                        self.assertTrue(machine.standings.below(names[places[low]], names[places[high]]))

    def test_the_only_ones(self):
        self.assertEqual(joint_along(Machine.along(SQUARE, FORK, "zzzz")), [(("z",) * 4, Ratio.whole(1))])
        machine = Machine.read(CHAIN, CHAIN, "x: x 2 y 1; y: x 1 y 2")
        self.assertEqual(joint_along(machine), [(("x", "x"), THIRD), (("x", "y"), THIRD), (("y", "y"), THIRD)])
        lone = Machine.read(ONE, FORK, "q: z 1 x 1 y 1")
        self.assertEqual(joint_along(lone), [(("x",), THIRD), (("y",), THIRD), (("z",), THIRD)])

    def test_a_map_that_does_not_rise_along_the_cover_that_is_left_out(self):
        for machine in (WEB, BOX):
            rows = joint_along(machine)
            self.assertLess(rising_sum(machine, rows), 1)

    def test_machines_that_are_not_rising(self):
        self.assertEqual(raised(NotRising, joint_along, FALL), {"low": "x", "high": "y", "names": ["y"]})
        machine = Machine.read(ZIGZAG, ZIGZAG, "a: a 1; b: b 1 d 1; c: c 1; d: d 1")
        self.assertEqual(raised(NotRising, joint_along, machine), {"low": "b", "high": "c", "names": ["d"]})
        # The cover that breaks need not be kept.
        machine = Machine.along(CROWN, CROWN, ["a1", "b2", "b1", "b1"])
        self.assertNotIn(("a2", "b2"), spanning(CROWN))
        self.assertEqual(raised(NotRising, joint_along, machine), {"low": "a2", "high": "b1", "names": ["b2"]})
        machine = Machine.read(CROWN, CHAIN, "a1: x 1; a2: y 1; b1: y 1; b2: x 1")
        self.assertEqual(raised(NotRising, joint_along, machine), {"low": "a2", "high": "b2", "names": ["y"]})

    def test_the_list_is_new(self):
        joint_along(WEB).clear()
        self.assertEqual(used_up(WEB, joint_along(WEB)), shares_of(WEB))


class ForestThrowTest(unittest.TestCase):
    def test_throws_of_rising_machines(self):
        for machine in [machine for machine in RISING if is_forest(machine.beginnings)]:
            rows = forest_throw(machine)
            self.assertEqual(used_up(machine, rows), shares_of(machine))
            self.assertEqual(rising_sum(machine, rows), 1)
            self.assertIs(is_throw(machine, rows), True)

    def test_the_only_ones(self):
        machine = Machine.read(FORK, FORK, "x: x 2 y 1; y: y 1; z: y 1 z 2")
        self.assertEqual(forest_throw(machine), [(("x", "y", "z"), Ratio(2, 3)), (("y", "y", "y"), THIRD)])
        self.assertEqual(forest_throw(Machine.still(ONE)), [(("q",), Ratio.whole(1))])
        self.assertEqual(forest_throw(Machine.still(ZIGZAG)), [(("a", "b", "c", "d"), Ratio.whole(1))])

    def test_standings_with_rings(self):
        machine = Machine.read(Order.chain("x", "y", "z"), CROWN, "x: a1 1 a2 2; y: a1 1 b1 1 b2 1; z: b1 1 b2 2")
        rows = forest_throw(machine)
        self.assertEqual(used_up(machine, rows), shares_of(machine))
        self.assertTrue(all(rises(machine.beginnings, CROWN, names) for names, _ in rows))

    def test_eight_beginnings_in_pieces(self):
        order = Order.read("a b c d e f g h; h < a; h < b; c < b; d < e; f < e")
        chances = {name: Chance({"x": 9 - 2 * at, "y": 2 + 2 * at, "z": 1}) for at, name in enumerate("hfdcbage"[:4])}
        rows = {name: chances.get(name, Chance({"y": 11, "z": 1})) for name in order}
        machine = Machine(order, Order.chain("x", "y", "z"), rows)
        self.assertIs(machine.is_rising(), True)
        found = forest_throw(machine)
        self.assertEqual(used_up(machine, found), shares_of(machine))
        self.assertEqual(rising_sum(machine, found), Fraction(1))

    def test_beginnings_with_a_ring(self):
        for machine in (WEB, BOX, Machine.still(PIECES), Machine.still(Order.crown(4))):
            self.assertEqual(raised(HasRing, forest_throw, machine), {"names": ring(machine.beginnings)})
        self.assertEqual(raised(HasRing, forest_throw, BOX), {"names": ["t", "y", "x", "z"]})
        # Not rising either: the ring comes first.
        self.assertEqual(raised(HasRing, forest_throw, Machine.along(CROWN, CROWN, ["b1", "a1", "a1", "a1"])),
                         {"names": ["a1", "b1", "a2", "b2"]})

    def test_machines_that_are_not_rising(self):
        self.assertEqual(raised(NotRising, forest_throw, FALL), {"low": "x", "high": "y", "names": ["y"]})
        machine = Machine.read(ZIGZAG, SQUARE, "a: x 1; b: y 1 t 1; c: y 1 z 1; d: t 1")
        self.assertEqual(raised(NotRising, forest_throw, machine), {"low": "b", "high": "c", "names": ["t"]})

    def test_the_list_is_new(self):
        machine = Machine.still(FORK)
        forest_throw(machine).clear()
        self.assertEqual(forest_throw(machine), [(("x", "y", "z"), Ratio.whole(1))])


if __name__ == "__main__":
    unittest.main()
