"""Points 3.1 to 3.5: chances."""

import unittest

from helper import raised
from onethrow.chances import Chance
from onethrow.errors import BadName, BadNumber, BadShares, BadText, DuplicateName, UnknownName
from onethrow.ratios import Ratio

HUGE = 10 ** 5000
HALF = Ratio(1, 2)
NO_NAMES = ["", "A", "aB", "1a", "0", "abcdefghi", "a b", " a", "a_b", "~"]


class MadeTest(unittest.TestCase):
    def test_shares_are_weights_by_their_sum(self):
        chance = Chance({"y": 4, "x": 2, "z": 0, "w": 3})
        self.assertEqual([str(chance.share(name)) for name in "wxyz"], ["1/3", "2/9", "4/9", "0"])
        self.assertEqual(Chance({"a": 5}).share("a"), Ratio(1, 1))

    def test_very_large_weights(self):
        chance = Chance({"a": HUGE, "b": 2 * HUGE, "c": HUGE + 1})
        self.assertEqual(chance.share("c"), Ratio(HUGE + 1, 4 * HUGE + 1))
        self.assertEqual(Chance({"a": HUGE, "b": 3 * HUGE}), Chance({"a": 1, "b": 3}))

    def test_weights_of_zero_leave_no_trace(self):
        chance = Chance({"a": 0, "b": 2, "c": 0})
        self.assertEqual(list(chance), ["b"])
        self.assertEqual(chance, Chance.sure("b"))
        self.assertEqual(chance.weights(), {"b": 1})

    def test_keys_that_are_no_names(self):
        for name in NO_NAMES:
            self.assertEqual(raised(BadName, Chance, {"a": 1, name: 0}), {"name": name})

    def test_weights_below_zero(self):
        self.assertEqual(raised(BadNumber, Chance, {"a": 5, "b": -1}), {"n": -1})
        self.assertEqual(raised(BadNumber, Chance, {"a": -HUGE, "b": HUGE}), {"n": -HUGE})

    def test_keys_are_checked_in_ascending_order(self):
        self.assertEqual(raised(BadNumber, Chance, {"c": -3, "a": 1, "b": -2}), {"n": -2})
        self.assertEqual(raised(BadName, Chance, {"b": -1, "aX": 1}), {"name": "aX"})
        self.assertEqual(raised(BadNumber, Chance, {"bX": 1, "a": -1}), {"n": -1})
        self.assertEqual(raised(BadName, Chance, {"a": -1, "A": -2}), {"name": "A"})

    def test_sum_of_zero(self):
        for weights in ({}, {"a": 0}, {"a": 0, "b": 0}):
            self.assertEqual(raised(BadShares, Chance, weights), {"total": Ratio(0, 1)})
            self.assertIs(type(raised(BadShares, Chance, weights)["total"]), Ratio)
        self.assertEqual(raised(BadName, Chance, {"a": 0, "B": 0}), {"name": "B"})
        self.assertEqual(raised(BadNumber, Chance, {"a": 1, "b": -1}), {"n": -1})

    def test_sure(self):
        chance = Chance.sure("x")
        self.assertEqual([str(chance), str(chance.share("x")), str(chance.share("y"))], ["x 1", "1", "0"])
        for name in NO_NAMES:
            self.assertEqual(raised(BadName, Chance.sure, name), {"name": name})

    def test_a_dictionary_is_copied_and_stays_as_it_was(self):
        weights = {"y": 4, "x": 2, "z": 0}
        chance = Chance(weights)
        self.assertEqual(list(weights.items()), [("y", 4), ("x", 2), ("z", 0)])
        weights["x"] = 100
        weights["q"] = 1
        self.assertEqual(str(chance), "x 1 y 2")


class SharedTest(unittest.TestCase):
    def test_shares(self):
        chance = Chance.shared([("y", Ratio(1, 3)), ("x", Ratio(1, 2)), ("a", Ratio(1, 6))])
        self.assertEqual(str(chance), "a 1 x 3 y 2")
        self.assertEqual(Chance.shared((("x", Ratio(1, 1)),)), Chance.sure("x"))

    def test_names_that_come_repeatedly(self):
        chance = Chance.shared([("x", Ratio(1, 4)), ("y", HALF), ("x", Ratio(1, 4))])
        self.assertEqual(str(chance), "x 1 y 1")

    def test_shares_of_zero(self):
        chance = Chance.shared([("z", Ratio(0, 1)), ("x", Ratio(1, 1)), ("y", Ratio(0, 1))])
        self.assertEqual(list(chance), ["x"])
        self.assertEqual(chance.share("z"), Ratio(0, 1))

    def test_strings_that_are_no_names(self):
        for name in NO_NAMES:
            self.assertEqual(raised(BadName, Chance.shared, [("a", HALF), (name, HALF)]), {"name": name})

    def test_shares_below_zero(self):
        rows = [("x", Ratio(3, 2)), ("y", Ratio(-1, 2))]
        self.assertEqual(raised(BadNumber, Chance.shared, rows), {"n": Ratio(-1, 2)})

    def test_tuples_are_checked_one_by_one(self):
        low = Ratio(-1, 3)
        self.assertEqual(raised(BadNumber, Chance.shared, [("x", low), ("Y", HALF)]), {"n": low})
        self.assertEqual(raised(BadName, Chance.shared, [("Y", HALF), ("x", low)]), {"name": "Y"})
        self.assertEqual(raised(BadName, Chance.shared, [("Y", low)]), {"name": "Y"})
        self.assertEqual(raised(BadNumber, Chance.shared, [("z", low), ("a", -HALF)]), {"n": low})

    def test_sums_other_than_one(self):
        self.assertEqual(raised(BadShares, Chance.shared, []), {"total": Ratio(0, 1)})
        self.assertEqual(raised(BadShares, Chance.shared, [("x", Ratio(0, 1))]), {"total": Ratio(0, 1)})
        self.assertEqual(raised(BadShares, Chance.shared, [("x", HALF), ("y", Ratio(1, 3))]), {"total": Ratio(5, 6)})
        self.assertEqual(raised(BadShares, Chance.shared, [("x", Ratio(2, 1))]), {"total": Ratio(2, 1)})
        self.assertEqual(raised(BadShares, Chance.shared, [("x", HALF), ("x", Ratio(2, 3))]), {"total": Ratio(7, 6)})

    def test_a_list_is_copied_and_stays_as_it_was(self):
        rows = [("y", HALF), ("x", HALF)]
        chance = Chance.shared(rows)
        self.assertEqual(rows, [("y", HALF), ("x", HALF)])
        rows.clear()
        self.assertEqual(str(chance), "x 1 y 1")


class AskedTest(unittest.TestCase):
    def test_iteration_and_len_and_in(self):
        chance = Chance({"z": 1, "a": 3, "m": 0, "b10": 1, "b2": 1})
        self.assertEqual(list(chance), ["a", "b10", "b2", "z"])
        self.assertEqual([name for name in chance for _ in range(2)][:3], ["a", "a", "b10"])
        self.assertEqual(len(chance), 4)
        self.assertIs(type(len(Chance.sure("a"))), int)
        self.assertEqual([word in chance for word in ("a", "z", "m", "q", "", "A B")], [True, True] + [False] * 4)

    def test_share_of_any_string(self):
        chance = Chance({"a": 1, "b": 2})
        for name in ("c", "", "A", "a b", "abcdefghij"):
            self.assertEqual(chance.share(name), Ratio(0, 1))

    def test_mass(self):
        chance = Chance({"a": 1, "b": 2, "c": 3})
        for names, mass in [([], "0"), (["a"], "1/6"), (["c", "a"], "2/3"), (["a", "b", "c"], "1"), (["q", ""], "0"),
                            (["b", "b", "b"], "1/3"), (["c", "q", "c", "a", "a"], "2/3"), (("b", "a"), "1/2")]:
            self.assertEqual(str(chance.mass(names)), mass)
            self.assertIs(type(chance.mass(names)), Ratio)

    def test_mass_leaves_its_list_as_it_was(self):
        names = ["c", "a", "c"]
        Chance({"a": 1, "b": 2}).mass(names)
        self.assertEqual(names, ["c", "a", "c"])

    def test_equality(self):
        chance = Chance({"a": 2, "b": 4})
        for other in (Chance({"b": 2, "a": 1}), Chance({"a": 1, "b": 2, "c": 0}), Chance.read("b 20 a 10"),
                      Chance.shared([("b", Ratio(2, 3)), ("a", Ratio(1, 3))])):
            self.assertIs(chance == other, True)
            self.assertIs(chance != other, False)
        for other in (Chance({"a": 2, "b": 3}), Chance({"a": 1, "c": 2}), Chance({"a": 1, "b": 2, "c": 1}),
                      Chance.sure("a"), Chance({"a": 4, "b": 2})):
            self.assertIs(chance == other, False)
            self.assertIs(other == chance, False)
            self.assertIs(chance != other, True)

    def test_values_of_other_kinds_are_not_equal(self):
        for other in ({"a": 1}, ["a"], "a 1", "a", 1, True, None, ("a",), Ratio(1, 1)):
            self.assertIs(Chance.sure("a") == other, False)
            self.assertIs(other == Chance.sure("a"), False)
            self.assertIs(Chance.sure("a") != other, True)

    def test_weights_are_least_and_ascending(self):
        for told, least in [({"b": 4, "a": 2}, [("a", 1), ("b", 2)]), ({"c": 9, "a": 6, "b": 0}, [("a", 2), ("c", 3)]),
                            ({"a": 7}, [("a", 1)]), ({"b": HUGE, "a": 3 * HUGE}, [("a", 3), ("b", 1)])]:
            self.assertEqual(list(Chance(told).weights().items()), least)
        chance = Chance.shared([("y", Ratio(1, 3)), ("x", Ratio(1, 6)), ("z", HALF)])
        self.assertEqual(list(chance.weights().items()), [("x", 1), ("y", 2), ("z", 3)])

    def test_weights_are_new(self):
        chance = Chance({"a": 1, "b": 2})
        told = chance.weights()
        told["a"] = 9
        told["c"] = 1
        del told["b"]
        self.assertEqual(chance.weights(), {"a": 1, "b": 2})
        self.assertEqual(str(chance), "a 1 b 2")


class AverageTest(unittest.TestCase):
    def test_average(self):
        chance = Chance({"a": 1, "b": 3})
        self.assertEqual(str(chance.average({"a": Ratio(1, 2), "b": Ratio(-2, 3)})), "-3/8")
        self.assertEqual(str(chance.average({"b": Ratio(1, 1), "a": Ratio(1, 1)})), "1")
        self.assertEqual(str(chance.average({"a": Ratio(0, 1), "b": Ratio(0, 1)})), "0")

    def test_keys_without_a_share(self):
        values = {"a": Ratio(5, 1), "b": Ratio(7, 1), "Q": Ratio(9, 1)}
        self.assertEqual(Chance({"a": 1, "b": 0}).average(values), Ratio(5, 1))
        self.assertEqual(len(values), 3)

    def test_names_that_are_no_keys(self):
        chance = Chance({"c": 1, "b": 1, "a": 1, "d": 0})
        self.assertEqual(raised(UnknownName, chance.average, {"a": HALF}), {"name": "b"})
        self.assertEqual(raised(UnknownName, chance.average, {}), {"name": "a"})
        self.assertEqual(raised(UnknownName, chance.average, {"a": HALF, "b": HALF, "d": HALF}), {"name": "c"})


class SentTest(unittest.TestCase):
    def test_sent(self):
        chance = Chance({"a": 1, "b": 2, "c": 3})
        self.assertEqual(str(chance.sent({"a": "x", "b": "y", "c": "x"})), "x 2 y 1")
        self.assertEqual(str(chance.sent({"a": "b", "b": "c", "c": "a"})), "a 3 b 1 c 2")
        self.assertEqual(chance.sent({"a": "a", "b": "b", "c": "c"}), chance)

    def test_keys_without_a_share(self):
        names = {"a": "x", "b": "NO", "Q": "y"}
        self.assertEqual(Chance({"a": 1, "b": 0}).sent(names), Chance.sure("x"))
        self.assertEqual(names, {"a": "x", "b": "NO", "Q": "y"})

    def test_names_that_are_no_keys(self):
        chance = Chance({"c": 1, "b": 1, "a": 1})
        self.assertEqual(raised(UnknownName, chance.sent, {"a": "x", "c": "y"}), {"name": "b"})
        self.assertEqual(raised(UnknownName, chance.sent, {"a": "X", "b": "Y"}), {"name": "c"})

    def test_values_that_are_no_names(self):
        chance = Chance({"c": 1, "b": 1, "a": 1})
        self.assertEqual(raised(BadName, chance.sent, {"c": "X", "b": "Y", "a": "z"}), {"name": "Y"})
        for name in NO_NAMES:
            self.assertEqual(raised(BadName, chance.sent, {"c": name, "b": "b", "a": "z"}), {"name": name})


class MixedTest(unittest.TestCase):
    first, second = Chance({"x": 1, "y": 2}), Chance({"y": 1, "z": 1})

    def test_mixed(self):
        self.assertEqual(str(self.first.mixed(self.second, Ratio(1, 4))), "x 2 y 5 z 1")
        self.assertEqual(str(self.second.mixed(self.first, Ratio(1, 4))), "x 2 y 13 z 9")
        for share in (Ratio(0, 1), Ratio(1, 7), Ratio(2, 3), Ratio(1, 1)):
            mixed = self.first.mixed(self.second, share)
            for name in "xyzq":
                wanted = (Ratio(1, 1) - share) * self.first.share(name) + share * self.second.share(name)
                self.assertEqual(mixed.share(name), wanted)

    def test_shares_at_the_ends(self):
        self.assertEqual(self.first.mixed(self.second, Ratio(0, 1)), self.first)
        self.assertEqual(self.first.mixed(self.second, Ratio(1, 1)), self.second)
        self.assertEqual(list(self.first.mixed(self.second, Ratio(1, 1))), ["y", "z"])

    def test_shares_beyond_the_ends(self):
        for share in (Ratio(-1, 9), Ratio(10, 9), Ratio(-1, HUGE), Ratio(HUGE + 1, HUGE), Ratio(2, 1), Ratio(-1, 1)):
            self.assertEqual(raised(BadNumber, self.first.mixed, self.second, share), {"n": share})

    def test_nothing_changes(self):
        for _ in range(2):
            self.assertEqual(str(self.first.mixed(self.second, HALF)), "x 2 y 7 z 3")
            self.assertEqual(str(self.first.average({"x": HALF, "y": HALF})), "1/2")
            self.assertEqual(str(self.first.sent({"x": "y", "y": "x"})), "x 2 y 1")
        self.assertEqual([str(self.first), str(self.second)], ["x 1 y 2", "y 1 z 1"])


class TextTest(unittest.TestCase):
    def test_texts_that_are_written(self):
        self.assertEqual(str(Chance({"b": 10, "a": 0, "c": 15})), "b 2 c 3")
        self.assertEqual(str(Chance({"b": HUGE, "a": 1})), "a 1 b 1" + "0" * 5000)

    def test_texts_that_are_read(self):
        thirty = "9" * 30
        for text, chance in [
            ("x 1", Chance.sure("x")), ("x 7", Chance.sure("x")), ("y 4 x 2", Chance({"x": 1, "y": 2})),
            ("abcdefgh 10 a1 20", Chance({"a1": 2, "abcdefgh": 1})),
            (f"x {thirty} y {thirty}", Chance({"x": 1, "y": 1})),
            (f"x {thirty} y 1", Chance({"x": int(thirty), "y": 1})),
        ]:
            with self.subTest(text):
                self.assertEqual(Chance.read(text), chance)
                self.assertEqual(Chance.read(str(chance)), chance)

    def refused(self, texts, at):
        for text in texts:
            with self.subTest(text):
                self.assertEqual(raised(BadText, Chance.read, text), {"at": at})

    def test_empty_words(self):
        self.refused(["", " ", " x 1", "  ", " x"], 0)
        self.refused(["x ", "x  1", "x  "], 1)
        self.refused(["x 1 ", "x 1  y 1", "X 1  y", "x 1  "], 2)
        self.refused(["x 1 y ", "x 1 y  2"], 3)

    def test_words_in_the_place_of_weights(self):
        self.refused(["x 0", "x 01", "x -1", "x +1", "x y", "x 1/2", "x 1.0", "x 1,", "x 1_0", "x x", "X 00", "x 0 y 0",
                      "x 1x 2", "x " + "1" * 31, "x " + "0" * 31, "x 1" + "0" * 30, "x \u0661", "x \u00b2"], 1)
        self.refused(["x 1 y 02", "x 1 y z", "x 1 x x", "x 1 y 0 ", "X 1 X 0"], 3)

    def test_the_last_name_without_a_weight(self):
        self.refused(["x"], 1)
        self.refused(["x 1 y", "X 1 Y", "x 1 x", "x 1 2"], 3)
        self.refused(["x 1 y 2 z"], 5)

    def test_errors_of_names_come_after_those_of_texts(self):
        self.assertEqual(raised(BadName, Chance.read, "x 1 Y 1 x 1"), {"name": "Y"})
        self.assertEqual(raised(BadName, Chance.read, "1 1"), {"name": "1"})
        self.assertEqual(raised(BadName, Chance.read, "X 1 X 1"), {"name": "X"})
        self.assertEqual(raised(BadName, Chance.read, "z 1 abcdefghi 1"), {"name": "abcdefghi"})
        self.assertEqual(raised(DuplicateName, Chance.read, "x 1 y 1 x 2 Y 1"), {"name": "x"})
        self.assertEqual(raised(DuplicateName, Chance.read, "z 1 y 1 y 2 z 1"), {"name": "y"})

    def test_the_same_question_gives_the_same_answer(self):
        chance = Chance.read("y 4 x 2")
        asked = [lambda: str(chance), lambda: list(chance), chance.weights, lambda: chance.mass(["x"]),
                 lambda: len(chance)]
        self.assertEqual([ask() for ask in asked], [ask() for ask in asked])


if __name__ == "__main__":
    unittest.main()
