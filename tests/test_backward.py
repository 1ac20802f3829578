"""Points 12.1 to 12.6: throws back in time."""

import unittest
from fractions import Fraction
from itertools import combinations, product

from helper import all_maps, fraction, raised, some_numbers
from onethrow.backward import bounds, closed_sets, ended, landed, machine_of, meets, resting, thrown, together
from onethrow.chances import Chance
from onethrow.errors import BadNumber, BadShares, UnknownName, UnlikeOrders
from onethrow.machines import Machine
from onethrow.maps import composed, rising_maps
from onethrow.orders import Order
from onethrow.ratios import Ratio
from onethrow.throws import is_throw, throw

ONE = Order(["q"], [])
CHAIN = Order.chain("x", "y")
THREE = Order.chain("x", "y", "z")
FORK = Order.read("x y z; x < y; x < z")
SQUARE = Order.read("t x y z; x < y; x < z; y < t; z < t")
THIRD, HALF, WHOLE, ZERO = Ratio(1, 3), Ratio(1, 2), Ratio(1, 1), Ratio(0, 1)


def rows_of(text):
    """Return the rows of a text of maps of names of one letter with shares."""
    words = text.split()
    return [(tuple(names), Ratio.read(share)) for names, share in zip(words[::2], words[1::2])]


SWAY = rows_of("xx 1/3 xy 1/3 yy 1/3")
SWAP = rows_of("yx 1")
# The two ends of the fork change places, or one of them goes to the other one.
TURN = rows_of("xzy 1/2 xyy 1/2")
# No map of this table is constant, but some of its throws are together.
STEPS = rows_of("xxy 1/2 yzz 1/2")
# Orders with tables of maps from them to themselves.
TABLES = [
    (CHAIN, SWAY), (CHAIN, SWAP), (FORK, TURN), (THREE, STEPS), (ONE, rows_of("q 1")),
    (ONE, rows_of("q 1/2 q 1/2")), (CHAIN, rows_of("xy 1/4 xy 1/2 xx 1/4")), (FORK, rows_of("yyy 1/7 xyz 6/7")),
    (SQUARE, rows_of("tyzx 1/3 xxxx 1/3 tttt 1/3")), (SQUARE, rows_of("zztt 2/5 yxyx 3/5")),
    (THREE, rows_of("yzx 1/2 xxz 1/2")), (THREE, rows_of("yzx 1")), (SQUARE, rows_of("xtzy 1/2 txzz 1/2")),
    (FORK, rows_of("xyz 1")), (Order(list("abcd"), []), rows_of("bcda 1/3 abca 2/3")),
]


def joined(order, rows, throws):
    """Return the map that some throws are together: everything first goes by the map that was picked last."""
    behind = order.names
    for at in reversed(throws):
        goals = dict(zip(order.names, rows[at][0]))
        behind = tuple(goals[name] for name in behind)
    return behind


def all_throws(order, rows, steps):
    """Return the share of each map that so many throws are together."""
    found = {}
    for throws in product(range(len(rows)), repeat=steps):
        share = Fraction(1)
        for at in throws:
            share *= fraction(rows[at][1])
        names = joined(order, rows, throws)
        found[names] = found.get(names, 0) + share
    return found


def all_joined(order, rows):
    """Return all maps that any number of throws are together."""
    found = {order.names}
    while True:
        more = {tuple(dict(zip(order.names, names))[goal] for goal in told) for told in found for names, _ in rows}
        if more <= found:
            return found
        found = found | more


class TableTest(unittest.TestCase):
    """What all functions that take a table of maps from an order to itself raise."""

    CALLS = [
        lambda order, rows: machine_of(order, order, rows), lambda order, rows: thrown(order, rows, -1),
        lambda order, rows: landed(order, rows, -1), lambda order, rows: together(order, rows, -1),
        lambda order, rows: ended(order, rows, [-1]), meets, lambda order, rows: bounds(order, rows, -1),
    ]

    def check(self, kind, rows, wanted):
        for call in self.CALLS:
            for told in (rows, tuple(rows)):
                self.assertEqual(raised(kind, call, CHAIN, told), wanted)

    def test_lists_that_are_no_maps(self):
        self.check(BadNumber, rows_of("xx 1/2 xyy 1/2"), {"n": 3})
        self.check(BadNumber, [((), WHOLE)], {"n": 0})
        self.check(BadNumber, rows_of("q 0 q 1"), {"n": 1})
        self.check(UnknownName, rows_of("xx 1/2 yz 1/2"), {"name": "z"})
        self.check(UnknownName, rows_of("pq 0 xxx 1"), {"name": "p"})

    def test_shares_that_are_not_above_0(self):
        self.check(BadNumber, rows_of("xx 1 xy 0"), {"n": ZERO})
        self.check(BadNumber, rows_of("xx 3/2 xy -1/2"), {"n": Ratio(-1, 2)})
        self.check(BadNumber, rows_of("xx -1 xxx 1"), {"n": Ratio(-1, 1)})

    def test_the_first_wrong_row_counts(self):
        self.check(BadNumber, rows_of("xx 0 zz 1"), {"n": ZERO})
        self.check(UnknownName, rows_of("zz 1 xx 0"), {"name": "z"})
        self.check(BadNumber, rows_of("xx 2 xxx 1"), {"n": 3})

    def test_sums_that_are_not_1(self):
        self.check(BadShares, rows_of("xx 1/2 xy 1/3"), {"total": Ratio(5, 6)})
        self.check(BadShares, rows_of("xx 1/2 xy 2/3"), {"total": Ratio(7, 6)})
        self.check(BadShares, [], {"total": ZERO})
        self.check(BadShares, rows_of("xx 1 xx 1"), {"total": Ratio(2, 1)})

    def test_maps_to_another_order(self):
        self.assertEqual(raised(BadNumber, machine_of, CHAIN, FORK, rows_of("xyz 1")), {"n": 3})
        self.assertEqual(raised(UnknownName, machine_of, FORK, CHAIN, rows_of("xyz 1")), {"name": "z"})
        self.assertEqual(raised(BadShares, machine_of, FORK, CHAIN, rows_of("xyy 1/2")), {"total": HALF})

    def test_steps_below_0(self):
        for call in (thrown, landed, together, bounds):
            for steps in (-1, -10):
                self.assertEqual(raised(BadNumber, call, CHAIN, SWAY, steps), {"n": steps})

    def test_what_is_passed_stays_as_it_is(self):
        rows, throws = rows_of("xy 1/3 xx 1/3 xy 1/3"), [0, 1, 2]
        for call in (machine_of, thrown, landed, together, bounds):
            call(*((CHAIN, CHAIN, rows) if call is machine_of else (CHAIN, rows, 3)))
        ended(CHAIN, rows, throws)
        meets(CHAIN, rows)
        self.assertEqual([rows, throws], [rows_of("xy 1/3 xx 1/3 xy 1/3"), [0, 1, 2]])


class MachineOfTest(unittest.TestCase):
    def test_machine_of(self):
        machine = machine_of(CHAIN, CHAIN, SWAY)
        self.assertEqual([type(machine), str(machine)], [Machine, "x: x 2 y 1; y: x 1 y 2"])
        self.assertEqual(str(machine_of(CHAIN, FORK, rows_of("xz 1/2 yz 1/4 xz 1/4"))), "x: x 3 y 1; y: z 1")
        self.assertEqual(machine_of(FORK, ONE, rows_of("qqq 1")), Machine.along(FORK, ONE, ["q"] * 3))
        self.assertEqual([machine_of(CHAIN, FORK, rows_of("xz 1")).beginnings,
                          machine_of(CHAIN, FORK, rows_of("xz 1")).standings], [CHAIN, FORK])

    def test_maps_need_not_be_rising(self):
        self.assertEqual(str(machine_of(CHAIN, CHAIN, SWAP)), "x: y 1; y: x 1")

    def test_a_throw_gives_its_machine(self):
        for text in ("x: x 2 y 1; y: x 1 y 2; z: x 1 y 1 z 3", "x: x 1; y: y 1; z: z 1",
                     "x: x 1 y 1; y: y 1; z: y 7 z 9"):
            machine = Machine.read(THREE, THREE, text)
            self.assertEqual(machine_of(THREE, THREE, throw(machine)), machine)

    def test_a_table_of_rising_maps_is_a_throw_of_its_machine(self):
        for beginnings, standings in ((FORK, CHAIN), (CHAIN, SQUARE), (SQUARE, FORK)):
            maps = list(rising_maps(beginnings, standings))
            rows = [(names, Ratio(1 + at % 3, 1)) for at, names in enumerate(maps)]
            whole = sum(share.top for _, share in rows)
            rows = [(names, Ratio(share.top, whole)) for names, share in rows]
            self.assertIs(is_throw(machine_of(beginnings, standings, rows), rows), True)


class ThrownTest(unittest.TestCase):
    def test_all_throws_of_many_tables(self):
        for order, rows in TABLES:
            for steps in range(5):
                found = thrown(order, rows, steps)
                self.assertEqual([(names, fraction(share)) for names, share in found],
                                 sorted(all_throws(order, rows, steps).items()))
                self.assertEqual({type(share) for _, share in found} | {type(names) for names, _ in found},
                                 {Ratio, tuple})
                lands = landed(order, rows, steps)
                self.assertEqual([list(lands), {type(share) for share in lands.values()}], [list(order.names), {Ratio}])
                for name in order:
                    shares = [fraction(share) for names, share in found if set(names) == {name}]
                    self.assertEqual(fraction(lands[name]), sum(shares))
                self.assertEqual(fraction(together(order, rows, steps)),
                                 sum(fraction(share) for share in lands.values()))

    def test_no_steps(self):
        for order, rows in TABLES:
            self.assertEqual(thrown(order, rows, 0), [(order.names, WHOLE)])
            self.assertEqual(together(order, rows, 0), WHOLE if len(order) == 1 else ZERO)
        self.assertEqual(landed(CHAIN, SWAY, 0), {"x": ZERO, "y": ZERO})
        self.assertEqual(landed(ONE, rows_of("q 1"), 0), {"q": WHOLE})

    def test_one_step(self):
        self.assertEqual(thrown(CHAIN, rows_of("yy 1/4 xy 1/2 yy 1/4"), 1), rows_of("xy 1/2 yy 1/2"))
        self.assertEqual(landed(CHAIN, SWAY, 1), {"x": THIRD, "y": THIRD})

    def test_twelve_steps_of_four_names(self):
        maps = list(rising_maps(SQUARE, SQUARE))
        rows = [(names, Ratio(1, len(maps))) for names in maps]
        table = thrown(SQUARE, rows, 12)
        self.assertEqual(sum(fraction(share) for _, share in table), 1)
        self.assertEqual([names for names, _ in table], sorted(names for names, _ in table))
        self.assertEqual(sum((fraction(share) for names, share in table if len(set(names)) == 1), Fraction(0)),
                         fraction(together(SQUARE, rows, 12)))

    def test_throws_of_two_parts_come_to_all_steps(self):
        for order, rows in TABLES:
            for first, second in ((1, 2), (2, 2), (3, 0)):
                both = {}
                for later, part in thrown(order, rows, second):
                    for sooner, share in thrown(order, rows, first):
                        names = composed(order, later, sooner)
                        both[names] = both.get(names, 0) + fraction(part) * fraction(share)
                found = thrown(order, rows, first + second)
                self.assertEqual({names: fraction(share) for names, share in found}, both)

    def test_what_is_returned_is_new(self):
        thrown(CHAIN, SWAY, 2).clear()
        landed(CHAIN, SWAY, 2).clear()
        bounds(CHAIN, SWAY, 2).clear()
        self.assertEqual(thrown(CHAIN, SWAY, 2), rows_of("xx 4/9 xy 1/9 yy 4/9"))
        self.assertEqual(landed(CHAIN, SWAY, 2), {"x": Ratio(4, 9), "y": Ratio(4, 9)})
        self.assertEqual(bounds(CHAIN, SWAY, 2)["x"], (Ratio(4, 9), Ratio(5, 9)))


class EndedTest(unittest.TestCase):
    def test_ended(self):
        self.assertEqual(ended(CHAIN, SWAY, [1, 1, 2, 0]), (3, "y"))
        self.assertEqual(ended(CHAIN, SWAY, (0, 2)), (1, "x"))
        self.assertIs(ended(CHAIN, SWAY, [1, 1, 1]), None)
        self.assertIs(ended(CHAIN, SWAY, []), None)
        self.assertEqual(ended(ONE, rows_of("q 1"), []), (0, "q"))
        self.assertEqual(ended(ONE, rows_of("q 1"), [0, 0]), (0, "q"))

    def test_the_last_throw_goes_first(self):
        rows = rows_of("xx 1/2 yx 1/2")
        # First everything goes to x, by the throw that is made last, and then to y.
        self.assertEqual(ended(CHAIN, rows, [1, 0]), (2, "y"))
        self.assertEqual(ended(CHAIN, rows, [0, 1]), (1, "x"))
        self.assertEqual(ended(CHAIN, rows, [1, 1, 0, 1]), (3, "x"))
        self.assertEqual(ended(THREE, STEPS, [0, 0]), (2, "x"))
        self.assertEqual(ended(THREE, STEPS, [1, 1]), (2, "z"))
        self.assertIs(ended(THREE, STEPS, [1, 0]), None)
        self.assertEqual(ended(THREE, STEPS, [1, 0, 0]), (3, "y"))
        self.assertEqual(ended(THREE, STEPS, [0, 1, 0, 0]), (4, "x"))

    def test_many_throws(self):
        for order, rows in TABLES:
            for start in range(20):
                throws = some_numbers(7, len(rows), start)
                wanted = None
                for count in range(len(throws), -1, -1):
                    names = joined(order, rows, throws[:count])
                    if len(set(names)) == 1:
                        wanted = (count, names[0])
                self.assertEqual(ended(order, rows, throws), wanted)

    def test_no_such_index(self):
        for throws, at in [([3], 3), ([0, 7, -1], 7), ([0, -1, 7], -1), ([-3], -3), ((0, 1, 2, 3), 3)]:
            self.assertEqual(raised(BadNumber, ended, CHAIN, SWAY, throws), {"n": at})
        # It is looked at even where everything has come to one standing before.
        self.assertEqual(raised(BadNumber, ended, CHAIN, SWAY, [0, 0, 9]), {"n": 9})
        self.assertEqual(raised(BadNumber, ended, ONE, rows_of("q 1"), [1]), {"n": 1})


class MeetsTest(unittest.TestCase):
    def test_meets(self):
        for order, rows in TABLES:
            self.assertIs(meets(order, rows), any(len(set(names)) == 1 for names in all_joined(order, rows)))
        self.assertIs(meets(CHAIN, SWAP), False)
        self.assertIs(meets(THREE, STEPS), True)
        self.assertIs(meets(ONE, rows_of("q 1")), True)
        self.assertIs(meets(FORK, TURN), False)

    def test_all_tables_of_two_maps_of_three_names(self):
        order = Order(["x", "y", "z"], [])
        maps = all_maps(order, order)
        for one, other in combinations(maps[::2], 2):
            rows = [(one, HALF), (other, HALF)]
            wanted = any(len(set(names)) == 1 for names in all_joined(order, rows))
            self.assertIs(meets(order, rows), wanted)
            if wanted:
                self.assertEqual(len(closed_sets(machine_of(order, order, rows))), 1)

    def test_eight_names(self):
        eight = Order.chain(*"abcdefgh")
        self.assertIs(meets(eight, rows_of("bcdefgha 1/2 abcdefgg 1/2")), True)
        self.assertIs(meets(eight, rows_of("bcdefgha 1/2 badcfehg 1/2")), False)
        self.assertIs(meets(eight, rows_of("aabcdefg 1/2 bcdefghh 1/2")), True)
        # It never takes the halves a to d and e to h to one standing.
        self.assertIs(meets(eight, rows_of("aaaaeeee 1/2 eeeeaaaa 1/2")), False)


class ClosedSetsTest(unittest.TestCase):
    MACHINES = [machine_of(order, order, rows) for order, rows in TABLES] + [
        Machine.read(SQUARE, SQUARE, "t: t 1 x 1; x: t 1; y: y 1; z: y 1 x 1"),
        Machine.read(SQUARE, SQUARE, "t: x 1; x: t 1; y: z 1; z: y 3 z 4"),
        Machine.read(THREE, THREE, "x: x 1 y 2; y: x 3 y 1 z 2; z: y 5 z 1"),
        Machine.still(SQUARE), Machine.along(SQUARE, SQUARE, "xxyy"),
    ]

    def test_closed_sets(self):
        for machine in self.MACHINES:
            names = machine.beginnings.names
            closed = [set(some) for size in range(1, len(names) + 1) for some in combinations(names, size)
                      if all(set(machine.row(name)) <= set(some) for name in some)]
            least = [some for some in closed if not any(other < some for other in closed)]
            self.assertEqual(closed_sets(machine), sorted(sorted(some) for some in least))

    def test_resting(self):
        for machine in self.MACHINES:
            found = resting(machine)
            self.assertEqual([list(chance) for chance in found], closed_sets(machine))
            for chance in found:
                self.assertEqual([type(chance), machine.led(chance)], [Chance, chance])

    def test_known_ones(self):
        machine = Machine.read(SQUARE, SQUARE, "t: x 1; x: t 1; y: z 1; z: y 3 z 4")
        self.assertEqual(closed_sets(machine), [["t", "x"], ["y", "z"]])
        self.assertEqual([str(chance) for chance in resting(machine)], ["t 1 x 1", "y 3 z 7"])
        machine = Machine.read(THREE, THREE, "x: y 1; y: z 1; z: z 1")
        self.assertEqual(closed_sets(machine), [["z"]])
        self.assertEqual([str(chance) for chance in resting(machine)], ["z 1"])
        machine = Machine.read(THREE, THREE, "x: x 1 y 2; y: x 3 y 1 z 2; z: y 5 z 1")
        self.assertEqual([str(chance) for chance in resting(machine)], ["x 15 y 20 z 8"])

    def test_sets_come_by_their_first_names(self):
        machine = Machine.read(SQUARE, SQUARE, "t: z 1; x: y 1; y: x 1; z: t 1")
        self.assertEqual(closed_sets(machine), [["t", "z"], ["x", "y"]])
        machine = Machine.read(SQUARE, SQUARE, "t: z 2; x: y 1; y: x 1; z: t 1 z 1")
        self.assertEqual([str(chance) for chance in resting(machine)], ["t 1 z 2", "x 1 y 1"])

    def test_a_machine_in_pieces(self):
        eight = Order(list("abcdefgh"), [])
        machine = Machine.read(
            eight, eight, "a: b 1; b: a 1; c: c 1 d 1; d: c 2 d 1; e: a 1 c 1; f: g 1; g: h 1; h: f 1")
        self.assertEqual(closed_sets(machine), [["a", "b"], ["c", "d"], ["f", "g", "h"]])
        self.assertEqual([str(chance) for chance in resting(machine)], ["a 1 b 1", "c 4 d 3", "f 1 g 1 h 1"])

    def test_eight_names(self):
        eight = Order.chain(*"abcdefgh")
        rows = {name: Chance({goal: 1 + (at * 5 + to * 3) % 7 for to, goal in enumerate(eight)})
                for at, name in enumerate(eight)}
        machine = Machine(eight, eight, rows)
        chance, = resting(machine)
        self.assertEqual(machine.led(chance), chance)
        self.assertEqual(list(chance), list(eight.names))

    def test_unlike_orders(self):
        for beginnings, standings in ((CHAIN, FORK), (CHAIN, Order.chain("y", "x")), (FORK, CHAIN)):
            machine = Machine.along(beginnings, standings, [standings.names[0]] * len(beginnings))
            for call in (closed_sets, resting):
                self.assertEqual(raised(UnlikeOrders, call, machine), {"first": beginnings, "second": standings})

    def test_the_lists_are_new(self):
        machine = Machine.still(CHAIN)
        closed_sets(machine)[0].append("z")
        closed_sets(machine).clear()
        resting(machine).clear()
        self.assertEqual(closed_sets(machine), [["x"], ["y"]])
        self.assertEqual(resting(machine), [Chance.sure("x"), Chance.sure("y")])


class BoundsTest(unittest.TestCase):
    def test_bounds_of_many_tables(self):
        for order, rows in TABLES:
            machine = machine_of(order, order, rows)
            before = None
            for steps in range(6):
                found = bounds(order, rows, steps)
                lands, rest = landed(order, rows, steps), WHOLE - together(order, rows, steps)
                self.assertEqual(found, {name: (lands[name], lands[name] + rest) for name in order})
                self.assertEqual(list(found), list(order.names))
                for name in order:
                    low, high = found[name]
                    if before is not None:
                        self.assertIs(low.under(before[name][0]) or before[name][1].under(high), False)
                    if meets(order, rows):
                        share = resting(machine)[0].share(name)
                        self.assertIs(share.under(low) or high.under(share), False)
                before = found

    def test_what_meets_comes_together(self):
        self.assertIs(Ratio(999, 1000).under(together(CHAIN, SWAY, 12)), True)
        low, high = bounds(CHAIN, SWAY, 12)["x"]
        self.assertIs(low.under(HALF) and HALF.under(high), True)
        self.assertEqual(high - low, Ratio(1, 3 ** 12))
        self.assertEqual(bounds(CHAIN, SWAP, 12), {"x": (ZERO, WHOLE), "y": (ZERO, WHOLE)})

    def test_orders_of_eight_names(self):
        eight = Order.chain(*"abcdefgh")
        rows = rows_of("aabcdefg 1/2 bcdefghh 1/2")
        open_share = WHOLE - together(eight, rows, 12)
        self.assertIs(open_share.under(WHOLE), True)
        self.assertEqual([high - low for low, high in bounds(eight, rows, 12).values()], [open_share] * 8)


if __name__ == "__main__":
    unittest.main()
