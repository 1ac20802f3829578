"""Points 1.1, 0.5 and 0.6: the error classes."""

import unittest

from onethrow import errors
from onethrow.orders import Order
from onethrow.ratios import Ratio

FIRST, SECOND = Order.chain("a", "b"), Order.chain("b", "a")
CREATED = {
    "BadNumber": {"n": 7},
    "BadText": {"at": 2},
    "BadName": {"name": "X"},
    "DuplicateName": {"name": "x"},
    "UnknownName": {"name": "y"},
    "Ring": {"names": ["a", "b"]},
    "BadShares": {"total": Ratio(1, 2)},
    "UnlikeOrders": {"first": FIRST, "second": SECOND},
    "NotRising": {"low": "a", "high": "b", "names": ["b", "c"]},
    "NoThrow": {},
    "HasRing": {"names": ["a", "b", "c", "d"]},
    "NoRing": {},
    "NothingToUndo": {},
}


def created(word):
    return getattr(errors, word)(*CREATED[word].values())


class ErrorTest(unittest.TestCase):
    def test_throw_error_is_directly_below_value_error(self):
        self.assertEqual(errors.ThrowError.__bases__, (ValueError,))

    def test_each_class_is_directly_below_throw_error(self):
        for word in CREATED:
            with self.subTest(word):
                self.assertEqual(getattr(errors, word).__bases__, (errors.ThrowError,))

    def test_there_are_thirteen(self):
        self.assertEqual(len(CREATED), 13)
        self.assertEqual({kind.__name__ for kind in errors.ThrowError.__subclasses__()}, set(CREATED))

    def test_an_error_is_of_no_other_class(self):
        for word in CREATED:
            for other in CREATED:
                with self.subTest(word=word, other=other):
                    self.assertIs(isinstance(created(word), getattr(errors, other)), word == other)

    def test_the_arguments_are_attributes(self):
        for word, told in CREATED.items():
            error = created(word)
            self.assertEqual(vars(error), told)
            for attribute, value in told.items():
                with self.subTest(word=word, attribute=attribute):
                    self.assertEqual(getattr(error, attribute), value)

    def test_errors_can_be_raised_and_have_a_message(self):
        for word in CREATED:
            with self.subTest(word):
                with self.assertRaises(errors.ThrowError) as caught:
                    raise created(word)
                self.assertTrue(str(caught.exception))

    def test_a_number_of_any_size_is_kept(self):
        for n in (0, -3, 10 ** 5000, -10 ** 5000, Ratio(-1, 3), Ratio(1, 10 ** 5000)):
            error = errors.BadNumber(n)
            self.assertEqual(error.n, n)
            self.assertTrue(str(error))
        self.assertTrue(str(errors.BadShares(Ratio(10 ** 5000, 7))))


class KeptListTest(unittest.TestCase):
    def created(self, names):
        return [errors.Ring(names), errors.HasRing(names), errors.NotRising("a", "b", names)]

    def test_a_list_is_copied(self):
        names = ["a", "b"]
        made = self.created(names)
        said = [str(error) for error in made]
        names.append("c")
        for error in made:
            self.assertEqual(error.names, ["a", "b"])
            error.names.append("d")
        self.assertEqual(names, ["a", "b", "c"])
        self.assertEqual(said, [str(error) for error in made])

    def test_a_tuple_becomes_a_list(self):
        for error in self.created(("a", "b")):
            self.assertIs(type(error.names), list)
            self.assertEqual(error.names, ["a", "b"])

    def test_the_empty_list_is_kept(self):
        for error in self.created([]):
            self.assertEqual(error.names, [])


if __name__ == "__main__":
    unittest.main()
