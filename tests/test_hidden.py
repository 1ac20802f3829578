"""Points 15.1 to 15.7: a hidden order."""

import inspect
import sys
import unittest
from itertools import permutations, product

from helper import orders_up_to, raised, rises, some_numbers
from onethrow.errors import BadName, BadNumber, DuplicateName, NothingToUndo, UnknownName
from onethrow.hidden import Hidden
from onethrow.orders import Order

LETTERS = "abcd"
ORDERS = {size: sorted([order for order in orders_up_to(4) if len(order) == size], key=str) for size in (1, 2, 3, 4)}
BELOW, FOREST, DIAMOND = ("below", "a", "b"), ("forest",), ("diamond",)


def holds(order, fact):
    """Tell if a fact holds for an order of at most four names, by what the document says of it."""
    if fact[0] == "below":
        return order.below(fact[1], fact[2])
    if fact[0] == "up":
        return tuple(sorted(fact[1])) in order.ups()
    if fact[0] == "map":
        return rises(order, order, fact[1])
    # Of at most four names only a diamond and a crown have a ring.
    ranks = sorted((sum(order.below(name, other) for other in order), sum(order.below(other, name) for other in order))
                   for name in order)
    diamond = ranks == [(1, 4), (2, 2), (2, 2), (4, 1)]
    if fact[0] == "diamond":
        return diamond
    return not diamond and ranks != [(1, 3), (1, 3), (3, 1), (3, 1)]


def fitting(size, told):
    """Return all orders of the first letters that fit what was told."""
    return [order for order in ORDERS[size] if all(holds(order, fact) is wanted for fact, wanted in told)]


def said(size, told, fact):
    """Return what is to be said of a fact behind what was told."""
    answers = {holds(order, fact) for order in fitting(size, told)}
    return {(True,): "sure", (False,): "never", (False, True): "open", (): None}[tuple(sorted(answers))]


def facts(size):
    """Return some facts of all kinds about the first letters."""
    names = LETTERS[:size]
    found = [("below", low, high) for low in names for high in names]
    found = found + [("up", way) for count in range(size + 1) for way in list(permutations(names, count))[:5]]
    found = found + [("map", list(goals)) for goals in list(product(names, repeat=size))[1::5]]
    return found + [FOREST, DIAMOND]


def all_facts(size):
    """Return all facts about the first letters."""
    names = LETTERS[:size]
    found = [("below", low, high) for low in names for high in names]
    found = found + [("up", way) for count in range(size + 1) for way in permutations(names, count)]
    return found + [("map", goals) for goals in product(names, repeat=size)] + [FOREST, DIAMOND]


def calls_made(call):
    """Return how many functions, Python's own included, are called while a function runs."""
    counts = {}

    def count(frame, event, argument):
        counts[event] = counts.get(event, 0) + 1

    sys.setprofile(count)
    try:
        call()
    finally:
        sys.setprofile(None)
    return counts.get("call", 0) + counts.get("c_call", 0)


def some_told(size, count, state):
    """Return a hidden order to which some facts are told, and those of them that fit."""
    hidden, told = Hidden(list(LETTERS[:size])), []
    choices = facts(size)
    for number in some_numbers(count, 2 * len(choices), state):
        fact, wanted = choices[number // 2], number % 2 == 0
        fits = bool(fitting(size, told + [(fact, wanted)]))
        assert hidden.tell(fact, wanted) is fits
        if fits:
            told.append((fact, wanted))
    return hidden, told


def state(hidden):
    """Return all that a hidden order tells of itself."""
    return [hidden.names, hidden.told(), len(hidden), list(hidden.possible()), hidden.many(), hidden.needless()]


class NamesTest(unittest.TestCase):
    def test_names(self):
        self.assertEqual(Hidden(["z", "x", "y"]).names, ("x", "y", "z"))
        self.assertEqual(Hidden(("q",)).names, ("q",))
        names = ["b", "a"]
        hidden = Hidden(names)
        names.append("c")
        self.assertEqual([hidden.names, hidden.many()], [("a", "b"), 3])

    def test_how_many_names(self):
        for names in ([], list("abcde"), ["", "", "", "", ""], ["a"] * 9):
            self.assertEqual(raised(BadNumber, Hidden, names), {"n": len(names)})

    def test_wrong_names(self):
        for names, kind, wrong in [
            (["a", ""], BadName, ""), (["A", "b", "b"], BadName, "A"), (["b", "a", "b"], DuplicateName, "b"),
            (["b", "b", "1"], DuplicateName, "b"), (["abcdefghi"], BadName, "abcdefghi"),
            (["a", "a b", "a"], BadName, "a b"),
        ]:
            self.assertEqual(raised(kind, Hidden, names), {"name": wrong})

    def test_all_orders_at_first(self):
        for size, many in [(1, 1), (2, 3), (3, 19), (4, 219)]:
            hidden = Hidden(list(LETTERS[:size])[::-1])
            self.assertEqual([hidden.many(), len(hidden), hidden.told(), hidden.needless()], [many, 0, [], []])
            self.assertEqual(list(hidden.possible()), ORDERS[size])

    def test_orders_come_by_their_texts(self):
        # The text has a blank or a semicolon behind a short name, and these come ahead of a digit.
        texts = [str(order) for order in Hidden(["a", "a0", "a00"]).possible()]
        self.assertEqual([texts, len(texts)], [sorted(set(texts)), 19])
        self.assertEqual(texts[1:3], ["a a0 a00; a < a0", "a a0 a00; a < a00"])


class TellTest(unittest.TestCase):
    def test_all_facts_of_few_names(self):
        for size in (1, 2, 3):
            hidden = Hidden(list(LETTERS[:size]))
            for fact in facts(size):
                self.assertEqual(hidden.says(fact), said(size, [], fact))
                for wanted in (True, False):
                    left = fitting(size, [(fact, wanted)])
                    self.assertIs(hidden.tell(fact, wanted), bool(left))
                    if left:
                        self.assertEqual([list(hidden.possible()), hidden.many()], [left, len(left)])
                        self.assertIs(hidden.undo(), None)
                    self.assertEqual(len(hidden), 0)

    def test_facts_of_four_names(self):
        hidden = Hidden(list(LETTERS))
        for fact in facts(4):
            self.assertEqual(hidden.says(fact), said(4, [], fact))
        for fact, many in [(DIAMOND, 12), (FOREST, 219 - 12 - 6), (("up", list("cadb")), 219), (("up", []), 219)]:
            self.assertIs(hidden.tell(fact, True), True)
            self.assertEqual(hidden.many(), many)
            hidden.undo()

    def test_what_does_not_fit_is_not_told(self):
        hidden = Hidden(["x", "y", "z"])
        self.assertIs(hidden.tell(("below", "x", "y"), True), True)
        before = state(hidden)
        for fact, wanted in [(("below", "y", "x"), True), (("below", "x", "x"), False), (("up", []), False),
                             (FOREST, False), (DIAMOND, True), (("up", ["x", "z"]), True), (("map", "xyz"), False),
                             (("map", ["y", "x", "x"]), True)]:
            self.assertIs(hidden.tell(fact, wanted), False)
            self.assertEqual(state(hidden), before)

    def test_told(self):
        hidden = Hidden(["a", "b"])
        hidden.tell(("map", ["a", "a"]), True)
        hidden.tell(("up", ("b",)), True)
        hidden.tell(("below", "b", "a"), False)
        hidden.tell(("up", []), True)
        hidden.tell(DIAMOND, False)
        wanted = [(("map", ("a", "a")), True), (("up", ("b",)), True), (("below", "b", "a"), False), (("up", ()), True),
                  (("diamond",), False)]
        self.assertEqual([hidden.told(), len(hidden)], [wanted, 5])
        hidden.told().clear()
        self.assertEqual(hidden.told(), wanted)

    def test_what_is_passed_stays_as_it_is(self):
        names = ["b", "a"]
        fact = ("up", names)
        hidden = Hidden(["a", "b"])
        rows = [(("map", ["a", "b"]), True)]
        hidden.tell(fact, True)
        hidden.supposed(rows, fact)
        self.assertEqual([fact, rows], [("up", ["b", "a"]), [(("map", ["a", "b"]), True)]])
        names.clear()
        self.assertEqual(hidden.told(), [(("up", ("b", "a")), True)])

    def test_the_same_told_again(self):
        hidden = Hidden(["a", "b"])
        for count in (1, 2, 3):
            self.assertIs(hidden.tell(BELOW, True), True)
            self.assertEqual([len(hidden), hidden.many()], [count, 1])
        self.assertEqual(hidden.needless(), [0, 1, 2])

    def test_undo(self):
        hidden = Hidden(["a", "b", "c"])
        states = [state(hidden)]
        for fact, wanted in [(BELOW, True), (("up", ["c"]), False), (("map", ["c", "b", "a"]), False)]:
            self.assertIs(hidden.tell(fact, wanted), True)
            states.append(state(hidden))
        for wanted in states[-2::-1]:
            self.assertIs(hidden.undo(), None)
            self.assertEqual(state(hidden), wanted)
        self.assertEqual(raised(NothingToUndo, hidden.undo), {})
        self.assertEqual(state(hidden), states[0])

    def test_nothing_to_undo_behind_what_did_not_fit(self):
        hidden = Hidden(["a"])
        self.assertIs(hidden.tell(DIAMOND, True), False)
        self.assertEqual(raised(NothingToUndo, hidden.undo), {})

    def test_many_things_told(self):
        for size, count, at in [(2, 4, 1), (3, 5, 2), (3, 6, 3), (3, 9, 4), (4, 5, 5), (4, 8, 6), (4, 10, 7)]:
            hidden, told = some_told(size, count, at)
            left = fitting(size, told)
            self.assertEqual([len(hidden), list(hidden.possible()), hidden.many()], [len(told), left, len(left)])
            for fact in facts(size):
                self.assertEqual(hidden.says(fact), said(size, told, fact))
                self.assertIs(hidden.knows(fact), said(size, told, fact) == "sure")

    def test_hidden_orders_have_nothing_in_common(self):
        first, second = Hidden(["a", "b"]), Hidden(["a", "b"])
        first.tell(BELOW, True)
        self.assertEqual([first.many(), second.many(), len(second)], [1, 3, 0])


class PossibleTest(unittest.TestCase):
    def test_it_is_a_generator(self):
        self.assertTrue(inspect.isgeneratorfunction(Hidden.possible))
        found = Hidden(["a", "b"]).possible()
        self.assertEqual([str(next(found)), str(next(found)), str(next(found))], ["a b", "a b; a < b", "a b; b < a"])
        self.assertEqual(list(found), [])
        self.assertIs(type(next(Hidden(["a"]).possible())), Order)

    def test_what_was_told_when_the_first_order_is_asked_for(self):
        hidden = Hidden(["a", "b"])
        later = hidden.possible()
        sooner = hidden.possible()
        self.assertEqual(str(next(sooner)), "a b")
        hidden.tell(BELOW, True)
        self.assertEqual([str(order) for order in later], ["a b; a < b"])
        self.assertEqual([str(order) for order in sooner], ["a b; a < b", "a b; b < a"])
        third = hidden.possible()
        next(third)
        hidden.undo()
        self.assertEqual(list(third), [])
        self.assertEqual(hidden.many(), 3)


class NeedlessTest(unittest.TestCase):
    def test_needless(self):
        hidden = Hidden(["x", "y", "z"])
        self.assertEqual(hidden.needless(), [])
        hidden.tell(("below", "x", "y"), True)
        hidden.tell(("below", "y", "z"), True)
        self.assertEqual(hidden.needless(), [])
        hidden.tell(("below", "x", "z"), True)
        self.assertEqual(hidden.needless(), [2])
        hidden.tell(FOREST, True)
        self.assertEqual(hidden.needless(), [2, 3])
        hidden.tell(("below", "y", "x"), False)
        self.assertEqual(hidden.needless(), [2, 3, 4])
        # x below y is told twice now, in other words: each one alone is needless.
        hidden.tell(("up", ["x", "z"]), False)
        self.assertEqual(hidden.needless(), [0, 2, 3, 4, 5])

    def test_needless_of_many_things_told(self):
        for size, count, at in [(2, 6, 11), (3, 6, 12), (3, 9, 13), (4, 6, 14), (4, 9, 15)]:
            hidden, told = some_told(size, count, at)
            left = fitting(size, told)
            wanted = [place for place in range(len(told)) if fitting(size, told[:place] + told[place + 1:]) == left]
            self.assertEqual(hidden.needless(), wanted)


class BestTest(unittest.TestCase):
    def test_best(self):
        hidden = Hidden(["x", "y", "z"])
        self.assertIs(hidden.best(), None)
        self.assertEqual(hidden.best(FOREST), 0)
        # x is below y in 6 of the 19 orders, and in all of them below itself.
        self.assertEqual(hidden.best(FOREST, ("below", "x", "x"), ("below", "x", "y"), ("below", "y", "x")), 2)
        self.assertEqual(hidden.best(("below", "x", "x"), FOREST), 0)
        hidden.tell(("below", "x", "y"), True)
        self.assertEqual(hidden.best(("below", "y", "x"), ("below", "z", "z")), 0)

    def test_best_of_many_facts(self):
        for size, count, at in [(3, 0, 0), (3, 2, 21), (4, 0, 0), (4, 3, 22), (4, 5, 23)]:
            hidden, told = some_told(size, count, at)
            left, choices = fitting(size, told), facts(size)
            for start in range(0, len(choices), 7):
                some = choices[start:start + 9][::-1]
                worst = [max(sum(holds(order, fact) is wanted for order in left) for wanted in (True, False))
                         for fact in some]
                self.assertEqual(hidden.best(*some), worst.index(min(worst)))


class SupposedTest(unittest.TestCase):
    def test_supposed(self):
        hidden = Hidden(["x", "y", "z"])
        hidden.tell(("below", "x", "y"), True)
        before = state(hidden)
        for rows, fact, wanted in [
            ([], ("below", "x", "y"), "sure"), ([], ("below", "x", "z"), "open"),
            ([(("below", "y", "z"), True)], ("below", "x", "z"), "sure"),
            ([(("below", "y", "z"), True), (("below", "x", "z"), False)], ("below", "x", "z"), None),
            ([(("below", "y", "x"), True)], ("below", "x", "x"), None),
            ([(("below", "z", "y"), True), (("below", "z", "x"), True)], ("below", "z", "y"), "sure"),
            (((("below", "z", "y"), True), (("below", "x", "z"), True)), ("below", "y", "z"), "never"),
            ([(DIAMOND, True), (("below", "x", "y"), True)], ("below", "x", "y"), None),
        ]:
            self.assertEqual(hidden.supposed(rows, fact), wanted)
            self.assertEqual(state(hidden), before)

    def test_supposed_of_many_facts(self):
        for size, count, at in [(2, 1, 31), (3, 2, 32), (3, 0, 33), (4, 2, 34)]:
            hidden, told = some_told(size, count, at)
            choices = facts(size)
            numbers = some_numbers(60, 2 * len(choices), at)
            for place in range(0, 60, 3):
                rows = [(choices[number // 2], number % 2 == 0) for number in numbers[place:place + 2]]
                fact = choices[numbers[place + 2] // 2]
                self.assertEqual(hidden.supposed(rows, fact), said(size, told + rows, fact))
            self.assertEqual(len(hidden), len(told))


class Sets:
    """What the document says of a hidden order, by the sets of the orders in which each fact holds."""

    def __init__(self, size):
        self.orders = ORDERS[size]
        self.all = frozenset(range(len(self.orders)))
        self.facts = all_facts(size)
        # In whatever order its names come, an up-set is the same.
        self.where = {}
        for fact in self.facts:
            if fact[0] == "up" and list(fact[1]) != sorted(fact[1]):
                self.where[fact] = self.where[("up", tuple(sorted(fact[1])))]
            else:
                self.where[fact] = frozenset(at for at in self.all if holds(self.orders[at], fact))

    def left(self, told):
        """Return the places of the orders that fit what was told."""
        found = self.all
        for fact, wanted in told:
            found = found & self.where[fact] if wanted else found - self.where[fact]
        return found

    def said(self, told, fact):
        """Return what is to be said of a fact behind what was told."""
        left = self.left(told)
        if not left:
            return None
        return "sure" if left <= self.where[fact] else "open" if left & self.where[fact] else "never"

    def needless(self, told):
        """Return what of what was told could be left out."""
        left = self.left(told)
        return [at for at in range(len(told)) if self.left(told[:at] + told[at + 1:]) == left]

    def best(self, told, some):
        """Return the place of the best one of some facts."""
        left = self.left(told)
        worst = [max(len(left & self.where[fact]), len(left - self.where[fact])) for fact in some]
        return worst.index(min(worst)) if some else None

    def possible(self, told):
        """Return the orders that fit what was told."""
        return [self.orders[at] for at in sorted(self.left(told))]


class SequenceTest(unittest.TestCase):
    SETS = {size: Sets(size) for size in ORDERS}

    def test_all_facts(self):
        for size, sets in self.SETS.items():
            hidden = Hidden(LETTERS[:size])
            for fact in sets.facts:
                self.assertEqual(hidden.says(fact), sets.said([], fact))
                for wanted in (True, False):
                    told = [(fact, wanted)]
                    self.assertIs(hidden.tell(fact, wanted), bool(sets.left(told)))
                    self.assertEqual(hidden.many(), len(sets.left(hidden.told())))
                    self.assertEqual(list(hidden.possible()), sets.possible(hidden.told()))
                    if hidden.told():
                        hidden.undo()

    def compare(self, hidden, sets, told, some, rows):
        """Compare all answers of a hidden order with what the document says."""
        self.assertEqual([hidden.told(), len(hidden), hidden.many()], [told, len(told), len(sets.left(told))])
        self.assertEqual(hidden.needless(), sets.needless(told))
        for count in range(len(some) + 1):
            self.assertEqual(hidden.best(*some[:count]), sets.best(told, some[:count]))
        for fact in some:
            self.assertEqual(hidden.says(fact), sets.said(told, fact))
            self.assertIs(hidden.knows(fact), sets.said(told, fact) == "sure")
        for count in range(len(rows) + 1):
            self.assertEqual(hidden.supposed(rows[:count], some[0]), sets.said(told + rows[:count], some[0]))

    def test_sequences(self):
        for size, count in [(1, 20), (2, 60), (3, 150), (4, 300)]:
            sets = self.SETS[size]
            numbers = some_numbers(count * 14, 2 * len(sets.facts), 100 + size)
            for start in range(0, len(numbers), 14):
                hidden, told = Hidden(LETTERS[:size][::-1]), []
                drawn = [(sets.facts[number // 2], number % 2 == 0) for number in numbers[start:start + 14]]
                some = [fact for fact, _ in drawn[8:12]] + [FOREST, DIAMOND]
                self.compare(hidden, sets, told, some, drawn[12:])
                for at, (fact, wanted) in enumerate(drawn[:8]):
                    fits = bool(sets.left(told + [(fact, wanted)]))
                    self.assertIs(hidden.tell(fact, wanted), fits)
                    if fits:
                        told.append((fact, wanted))
                    if at % 3 == 2 and told:
                        hidden.undo()
                        told.pop()
                    self.compare(hidden, sets, told, some, drawn[12:])
                self.assertEqual(list(hidden.possible()), sets.possible(told))

    def test_orders_that_were_made_before(self):
        sets = self.SETS[4]
        hidden = Hidden(LETTERS)
        told = [(("below", "a", "b"), False), (("up", ("c", "d")), True), (DIAMOND, False), (FOREST, False)]
        for at, row in enumerate(told):
            self.assertIs(hidden.tell(*row), True)
            self.assertEqual(list(hidden.possible()), sets.possible(told[:at + 1]))
        for at in (3, 2, 1, 0):
            hidden.undo()
            self.assertEqual(list(hidden.possible()), sets.possible(told[:at]))

    def test_many_questions_take_few_steps(self):
        some = [("map", tuple("abad")), ("map", tuple("bbcd")), FOREST, DIAMOND]
        told = [(("map", tuple("aacd")), True), (("map", tuple("abbd")), True), (("map", tuple("abcc")), True),
                (("up", ("d",)), True)]
        found = []

        def ask():
            hidden = Hidden(["d", "c", "b", "a"])
            for row in told:
                found.append(hidden.tell(*row))
                for _ in range(2):
                    found.append([hidden.needless(), hidden.needless(), hidden.best(*some[:2]), hidden.best(*some)])
                    found.append([(hidden.says(each), hidden.knows(each), hidden.knows(each)) for each in some])
                found.append(hidden.supposed([(some[0], True)], some[1]))

        # These are about 2,000 calls, Python's own included; to look at single orders takes hundreds of thousands.
        self.assertLess(calls_made(ask), 6000)
        sets, wanted = self.SETS[4], []
        for count in range(1, len(told) + 1):
            rows = told[:count]
            says = [sets.said(rows, each) for each in some]
            answers = [[sets.needless(rows)] * 2 + [sets.best(rows, some[:2]), sets.best(rows, some)],
                       [(word, word == "sure", word == "sure") for word in says]]
            wanted = wanted + [True, *answers, *answers, sets.said(rows + [(some[0], True)], some[1])]
        self.assertEqual(found, wanted)


class FactErrorTest(unittest.TestCase):
    # Wrong facts about the names a, b and c, with the error and its argument.
    WRONG = [
        (("above", "a", "b"), BadName, "above"), (("", "a"), BadName, ""), (("Forest",), BadName, "Forest"),
        (("below ", "a", "b", "c"), BadName, "below "), (("maps", ["q"]), BadName, "maps"),
        (("below", "a"), BadNumber, 2), (("below", "q", "q", "q"), BadNumber, 4), (("below",), BadNumber, 1),
        (("up",), BadNumber, 1), (("up", ["q"], ["a"]), BadNumber, 3), (("map",), BadNumber, 1),
        (("map", ["a"], ["a"]), BadNumber, 3), (("map", "a", "b", "c"), BadNumber, 4), (("forest", "a"), BadNumber, 2),
        (("forest", []), BadNumber, 2), (("diamond", "a", "b"), BadNumber, 3), ((), BadNumber, 0),
        (("map", []), BadNumber, 0), (("map", ["q", "p"]), BadNumber, 2), (("map", ("a", "b", "c", "q")), BadNumber, 4),
        (("below", "p", "q"), UnknownName, "p"), (("below", "a", "q"), UnknownName, "q"),
        (("below", "", "q"), UnknownName, ""), (("up", ["a", "a", "q"]), UnknownName, "q"),
        (("up", ("q", "p")), UnknownName, "q"), (("up", ["d"]), UnknownName, "d"),
        (("map", ["a", "d", "e"]), UnknownName, "d"), (("map", ("A", "b", "c")), UnknownName, "A"),
        (("up", ["a", "b", "b", "a"]), DuplicateName, "b"), (("up", ("c", "a", "c")), DuplicateName, "c"),
    ]

    def test_wrong_facts(self):
        hidden = Hidden(["a", "b", "c"])
        hidden.tell(BELOW, True)
        before = state(hidden)
        for fact, kind, wrong in self.WRONG:
            wanted = {"n": wrong} if kind is BadNumber else {"name": wrong}
            for call in (lambda told: hidden.tell(told, True), lambda told: hidden.tell(told, False), hidden.says,
                         hidden.knows, hidden.best, lambda told: hidden.best(FOREST, told),
                         lambda told: hidden.supposed([], told), lambda told: hidden.supposed([(told, True)], FOREST)):
                self.assertEqual(raised(kind, call, fact), wanted)
            self.assertEqual(state(hidden), before)

    def test_the_first_wrong_fact_counts(self):
        hidden = Hidden(["a", "b", "c"])
        first, second, third = ("up", ["q"]), ("below", "a"), ("no",)
        self.assertEqual(raised(UnknownName, hidden.best, FOREST, first, second), {"name": "q"})
        self.assertEqual(raised(BadNumber, hidden.best, second, first), {"n": 2})
        rows = [(FOREST, True), (third, True), (first, False)]
        self.assertEqual(raised(BadName, hidden.supposed, rows, second), {"name": "no"})
        self.assertEqual(raised(UnknownName, hidden.supposed, [(first, False)], third), {"name": "q"})
        self.assertEqual(raised(BadName, hidden.supposed, [(FOREST, True)], third), {"name": "no"})

    def test_wrong_facts_behind_rows_that_do_not_fit(self):
        hidden = Hidden(["a", "b", "c"])
        rows = [(BELOW, True), (BELOW, False)]
        self.assertIs(hidden.supposed(rows, FOREST), None)
        self.assertEqual(raised(BadName, hidden.supposed, rows, ("no",)), {"name": "no"})
        self.assertEqual(raised(BadNumber, hidden.supposed, rows + [(("up",), True)], FOREST), {"n": 1})
        # The errors leave nothing behind.
        self.assertEqual(hidden.supposed([(BELOW, True)], BELOW), "sure")
        self.assertEqual([hidden.says(BELOW), hidden.supposed([], BELOW)], ["open", "open"])
        self.assertEqual([hidden.many(), len(hidden)], [19, 0])

    def test_names_of_an_image_may_come_again(self):
        hidden = Hidden(["a", "b", "c"])
        self.assertEqual(hidden.says(("map", ["b", "b", "b"])), "sure")
        self.assertEqual(hidden.says(("below", "c", "c")), "sure")


if __name__ == "__main__":
    unittest.main()
