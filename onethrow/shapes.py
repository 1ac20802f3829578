"""Shapes of orders: which orders come of each other by renaming."""

from math import factorial

from onethrow.errors import BadNumber
from onethrow.orders import Order
from onethrow.pictures import is_forest
from onethrow.words import LETTERS, check_among

MOST_LETTERS = 5


def renamed(order, names):
    """Return the order in which each name is replaced as told."""
    check_among(names, order)
    goals = [names[name] for name in order]
    return Order(goals, [(names[low], names[high]) for low, high in order.pairs()])


def _fits(first, second, told, name, goal):
    """Tell if a name may go to a name of the second order beside those that are told."""
    # Only one name is both above and below another one's goal: so no two names go to the same.
    return all([
        first.below(name, other) == second.below(goal, told[other])
        and first.below(other, name) == second.below(told[other], goal)
        for other in told
    ])


def _rank(order, name):
    """Return how many names are above a name, and how many below it."""
    return (
        len([other for other in order if order.below(name, other)]),
        len([other for other in order if order.below(other, name)]),
    )


def _choices(first, second):
    """Return for each name of the first order the names of the second one to which it may go."""
    ranks = {goal: _rank(second, goal) for goal in second}
    return {name: [goal for goal in second if ranks[goal] == _rank(first, name)] for name in first}


def _completed(first, second, choices, told):
    """Return the first renaming of the first order to the second one that goes where it is told, or None."""
    left = [name for name in first if name not in told]
    if not left:
        return {name: told[name] for name in first}
    for goal in choices[left[0]]:
        if _fits(first, second, told, left[0], goal):
            found = _completed(first, second, choices, {**told, left[0]: goal})
            if found is not None:
                return found
    return None


def same_shape(first, second):
    """Return the first renaming of the first order to the second one, or None."""
    if len(first) != len(second):
        return None
    return _completed(first, second, _choices(first, second), {})


def symmetries(order):
    """Return the number of renamings of an order to itself."""
    choices = _choices(order, order)
    many = 1
    told = {}
    for name in order:
        # Of the renamings that leave the earlier names where they are, equally many take this one to each goal.
        goals = [
            goal for goal in choices[name]
            if _fits(order, order, told, name, goal)
            and _completed(order, order, choices, {**told, name: goal}) is not None
        ]
        many = many * len(goals)
        told = {**told, name: name}
    return many


def arrangements(names):
    """Return all ways to write some names one behind the other."""
    ways = [()]
    for _ in names:
        ways = [(*way, name) for way in ways for name in names if name not in way]
    return ways


def plain_shape(order):
    """Return the order of the same shape with the first letters as names whose text comes first."""
    if len(order) > MOST_LETTERS:
        raise BadNumber(len(order))
    letters = list(LETTERS[:len(order)])
    covers = order.covers()
    found = []
    for way in arrangements(letters):
        goals = dict(zip(order, way))
        found.append(sorted([(goals[low], goals[high]) for low, high in covers]))
    # The texts have equally many covers of single letters, so they are ordered as the lists of covers are.
    return Order(letters, min(found))


def _check_size(size):
    """Raise an error if there are no shapes of a size here."""
    if not 1 <= size <= MOST_LETTERS:
        raise BadNumber(size)


def _topped(order):
    """Return the plain shapes of an order with one more name, which nothing is above."""
    new = LETTERS[len(order)]
    found = []
    for names in order.ups():
        pairs = [(low, new) for low in order if low not in names]
        found.append(plain_shape(Order([*order, new], order.pairs() + pairs)))
    return found


def _shapes_by_text(size):
    """Return the plain shapes of a size under their texts."""
    single = Order([LETTERS[0]], [])
    found = {str(single): single}
    for _ in range(1, size):
        topped = [order for text in found for order in _topped(found[text])]
        found = {str(order): order for order in topped}
    return found


def shapes(size):
    """Yield the plain shapes of all orders with so many names, in ascending order of their texts."""
    _check_size(size)
    found = _shapes_by_text(size)
    for text in sorted(found):
        yield found[text]


def forest_shapes(size):
    """Return the plain shapes with so many names that are forests."""
    return [order for order in shapes(size) if is_forest(order)]


def count_orders(size):
    """Return the number of all orders that have some told names, so many of them."""
    return sum([factorial(size) // symmetries(order) for order in shapes(size)])
