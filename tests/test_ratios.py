"""Points 1.2 to 1.5: ratios."""

import unittest
from fractions import Fraction

from onethrow.errors import BadNumber, BadText, ThrowError
from onethrow.ratios import Ratio, greatest, total

HUGE = 7 ** 9000
SIDES = range(-4, 5)
ALL = [(top, bottom) for top in SIDES for bottom in SIDES if bottom != 0]


def terms(ratio):
    return (ratio.top, ratio.bottom)


def lowest(fraction):
    return (fraction.numerator, fraction.denominator)


class MadeTest(unittest.TestCase):
    def test_lowest_terms(self):
        self.assertEqual(terms(Ratio(4, 6)), (2, 3))
        self.assertEqual(terms(Ratio(-2, -6)), (1, 3))
        self.assertEqual(terms(Ratio(2, -6)), (-1, 3))
        self.assertEqual(terms(Ratio(-6, 2)), (-3, 1))
        for top, bottom in ALL:
            self.assertEqual(terms(Ratio(top, bottom)), lowest(Fraction(top, bottom)))

    def test_zero(self):
        self.assertEqual(terms(Ratio(0, 9)), (0, 1))
        self.assertEqual(terms(Ratio(0, -9)), (0, 1))

    def test_very_large(self):
        self.assertEqual(terms(Ratio(HUGE * 6, -HUGE * 4)), (-3, 2))
        self.assertEqual(terms(Ratio(HUGE + 1, HUGE)), (HUGE + 1, HUGE))

    def test_bottom_zero(self):
        for top in (0, 5, -5, HUGE):
            with self.assertRaises(BadNumber) as caught:
                Ratio(top, 0)
            self.assertEqual(caught.exception.n, 0)

    def test_the_terms_are_integers(self):
        for ratio in (Ratio(0, 3), Ratio(3, 3), Ratio(-1, 1), Ratio.whole(1)):
            self.assertEqual([type(n) for n in terms(ratio)], [int, int])

    def test_whole(self):
        for n in (0, 1, -1, 12, HUGE, -HUGE):
            self.assertEqual(terms(Ratio.whole(n)), (n, 1))
            self.assertIs(type(Ratio.whole(n)), Ratio)


class SignTest(unittest.TestCase):
    def test_signs_are_as_usual(self):
        for one in ALL:
            for other in ALL:
                first, second = Ratio(*one), Ratio(*other)
                left, right = Fraction(*one), Fraction(*other)
                self.assertEqual(terms(first + second), lowest(left + right))
                self.assertEqual(terms(first - second), lowest(left - right))
                self.assertEqual(terms(first * second), lowest(left * right))
                self.assertEqual(terms(-first), lowest(-left))
                self.assertIs(first == second, left == right)
                self.assertIs(first != second, left != right)
                self.assertIs(first.under(second), left < right)
                self.assertIs(bool(first), left != 0)
                if right != 0:
                    self.assertEqual(terms(first.quotient(second)), lowest(left / right))

    def test_signs_of_very_large_ones(self):
        low, high = Ratio(HUGE, HUGE + 1), Ratio(HUGE + 1, HUGE + 2)
        self.assertIs(low.under(high), True)
        self.assertIs(high.under(low), False)
        self.assertEqual(terms(low + low), (2 * HUGE, HUGE + 1) if HUGE % 2 == 0 else (HUGE, (HUGE + 1) // 2))
        self.assertEqual(terms(low.quotient(low)), (1, 1))

    def test_quotient_by_zero(self):
        for ratio in (Ratio(0, 1), Ratio(1, 2), Ratio(-3, 1)):
            with self.assertRaises(BadNumber) as caught:
                ratio.quotient(Ratio(0, 5))
            self.assertEqual(caught.exception.n, 0)

    def test_nothing_changes(self):
        first, second = Ratio(1, 2), Ratio(-2, 3)
        for _ in range(2):
            self.assertEqual(terms(first + second), (-1, 6))
            self.assertEqual(terms(first - second), (7, 6))
            self.assertEqual(terms(first * second), (-1, 3))
            self.assertEqual(terms(-second), (2, 3))
            self.assertEqual(terms(first.quotient(second)), (-3, 4))
            self.assertIs(second.under(first), True)
        self.assertEqual([terms(first), terms(second)], [(1, 2), (-2, 3)])

    def test_values_of_other_kinds_are_not_equal(self):
        for other in (1, True, "1", 1.0, Fraction(1, 1), None, (1, 1), [1, 1]):
            self.assertIs(Ratio(1, 1) == other, False)
            self.assertIs(other == Ratio(1, 1), False)
            self.assertIs(Ratio(1, 1) != other, True)
        self.assertIs(Ratio(0, 1) == 0, False)
        self.assertIs(Ratio(0, 1) == False, False)  # noqa: E712

    def test_truth(self):
        self.assertIs(bool(Ratio(0, 7)), False)
        self.assertIs(bool(Ratio(-1, 7)), True)
        self.assertEqual([k for k in range(-2, 3) if Ratio(k, 5)], [-2, -1, 1, 2])


class TextTest(unittest.TestCase):
    def test_texts_that_are_written(self):
        for ratio, text in [
            (Ratio(0, 5), "0"), (Ratio(6, 3), "2"), (Ratio(-6, 3), "-2"), (Ratio(2, 6), "1/3"),
            (Ratio(2, -6), "-1/3"), (Ratio(10, 3), "10/3"), (Ratio(1, 100), "1/100"),
        ]:
            self.assertEqual(str(ratio), text)

    def test_texts_of_very_large_ones(self):
        zeros = "0" * 5000
        self.assertEqual(str(Ratio.whole(10 ** 5000)), "1" + zeros)
        self.assertEqual(str(Ratio.whole(-10 ** 5000)), "-1" + zeros)
        self.assertEqual(str(Ratio(1, 10 ** 5000)), "1/1" + zeros)
        for n in (10 ** 63, 10 ** 64 - 1, 10 ** 64, 10 ** 64 + 5, 10 ** 128, 10 ** 128 - 1, 3 ** 500):
            self.assertEqual(str(Ratio(n, n + 1)), f"{n}/{n + 1}")
            self.assertEqual(str(Ratio.whole(-n)), f"-{n}")

    def test_texts_that_are_read(self):
        thirty = "9" * 30
        for text, pair in [
            ("0", (0, 1)), ("7", (7, 1)), ("-7", (-7, 1)), ("4/6", (2, 3)), ("-4/6", (-2, 3)), ("0/5", (0, 1)),
            ("5/1", (5, 1)), ("10/20", (1, 2)), ("1/10", (1, 10)), (thirty, (int(thirty), 1)),
            ("-" + thirty, (-int(thirty), 1)), ("1/" + thirty, (1, int(thirty))), (thirty + "/" + thirty, (1, 1)),
        ]:
            with self.subTest(text):
                self.assertEqual(terms(Ratio.read(text)), pair)

    def test_what_is_written_is_read(self):
        for pair in ALL:
            self.assertEqual(Ratio.read(str(Ratio(*pair))), Ratio(*pair))

    def refused(self, texts, at):
        for text in texts:
            with self.subTest(text):
                with self.assertRaises(BadText) as caught:
                    Ratio.read(text)
                self.assertEqual(caught.exception.at, at)

    def test_texts_without_an_integer_in_front(self):
        self.refused([
            "", "-", "-0", "00", "01", "-01", "+1", " 1", "1 ", "- 1", "--1", "x", "1x", "1.0", "1_0", "1e3", "0x1",
            "1" * 31, "-" + "1" * 31, "0" * 30, "1 1", "1\\2", "1:2", "a-1",
            "/", "/1", "-/1", "-0/1", "01/2", " 1/2", "1 /2", "x/0", "/x", "1" * 31 + "/1", "+1/2", "//",
        ], 0)

    def test_texts_without_a_positive_integer_behind(self):
        self.refused([
            "1/", "1/0", "1/00", "1/02", "1/-2", "1/+2", "1/ 2", "1/2 ", "1/x", "1/2/3", "1//2", "1/2/", "0/0", "-1/-0",
            "1/" + "1" * 31, "1/" + "0" * 31, "1/2.0", "-5/1_0",
        ], 1)

    def test_digits_of_other_scripts_are_none(self):
        self.refused(["\u00b2", "\u0661", "1\u0661"], 0)
        self.refused(["1/\u00b2", "1/\u0661"], 1)


class ListTest(unittest.TestCase):
    def test_total(self):
        for pairs in ([], [(1, 2)], [(1, 2), (1, 3), (1, 6)], [(1, 2), (-1, 2)], [(-5, 3), (7, 4), (0, 1), (HUGE, 3)]):
            ratios = [Ratio(*pair) for pair in pairs]
            wanted = lowest(sum([Fraction(*pair) for pair in pairs], Fraction(0)))
            self.assertEqual(terms(total(ratios)), wanted)
            self.assertEqual(terms(total(tuple(ratios))), wanted)

    def test_the_empty_total_is_a_ratio(self):
        self.assertIs(type(total([])), Ratio)
        self.assertEqual(total(()), Ratio(0, 1))

    def test_greatest(self):
        for pairs in ([(0, 1)], [(-1, 2)], [(-1, 2), (-1, 3)], [(1, 2), (2, 3), (3, 5)], [(3, 4), (1, 4), (6, 8)],
                      [(1, 4), (1, 3), (-HUGE, 1)], [(HUGE, HUGE + 1), (1, 1)]):
            ratios = [Ratio(*pair) for pair in pairs]
            wanted = lowest(max([Fraction(*pair) for pair in pairs]))
            self.assertEqual(terms(greatest(ratios)), wanted)
            self.assertEqual(terms(greatest(tuple(ratios))), wanted)

    def test_lists_stay_as_they_were(self):
        ratios = [Ratio(1, 2), Ratio(3, 2), Ratio(-1, 1)]
        for _ in range(2):
            self.assertEqual(str(total(ratios)), "1")
            self.assertEqual(str(greatest(ratios)), "3/2")
        self.assertEqual([str(ratio) for ratio in ratios], ["1/2", "3/2", "-1"])

    def test_errors_are_own_ones(self):
        for kind in (BadNumber, BadText):
            self.assertTrue(issubclass(kind, ThrowError))


if __name__ == "__main__":
    unittest.main()
