"""A hidden order, of which true things are told."""

from onethrow.errors import BadName, BadNumber, DuplicateName, NothingToUndo
from onethrow.maps import is_rising_map
from onethrow.pictures import diamond, is_forest
from onethrow.shapes import arrangements, renamed, shapes
from onethrow.words import check_among, check_names

MOST_TOLD = 4
# The first word of each fact, with the number of its items.
ITEMS = {"below": 3, "up": 2, "map": 2, "forest": 1, "diamond": 1}


def _orders(names):
    """Return all orders of some names, in ascending order of their texts."""
    found = {}
    for shape in shapes(len(names)):
        for way in arrangements(names):
            order = renamed(shape, dict(zip(shape, way)))
            found[str(order)] = order
    return [found[text] for text in sorted(found)]


def _strings(fact):
    """Return the names in a fact, in order."""
    word, *items = fact
    return list(items) if word == "below" else [name for names in items for name in names]


def _kept(fact):
    """Return a fact with a tuple in the place of a list."""
    return tuple([tuple(item) if isinstance(item, list) else item for item in fact])


def _is_up(order, names):
    """Tell if some names are an up-set."""
    return all([high in names for low, high in order.pairs() if low in names])


def _holds(order, fact):
    """Tell if a fact holds for an order."""
    word, *items = fact
    if word == "below":
        return order.below(items[0], items[1])
    if word == "up":
        return _is_up(order, items[0])
    if word == "map":
        return is_rising_map(order, order, items[0])
    if word == "forest":
        return is_forest(order)
    return diamond(order) is not None


def _fitting(orders, fact, holds):
    """Return the orders for which a fact holds, or does not hold."""
    return [order for order in orders if _holds(order, fact) == holds]


def _verdict(orders, fact):
    """Return whether a fact holds in some orders, of which there is one at least."""
    many = len(_fitting(orders, fact, True))
    if many == len(orders):
        return "sure"
    return "open" if many > 0 else "never"


class Hidden:
    """An order of told names that is not known, and what is told of it."""

    def __init__(self, names):
        if not 1 <= len(names) <= MOST_TOLD:
            raise BadNumber(len(names))
        check_names(names)
        self.names = tuple(sorted(names))
        self._told = []
        # The orders that fit, ahead of all that is told and behind each thing that is told.
        self._left = [_orders(self.names)]

    def _check(self, fact):
        """Raise an error if a fact is none of the told names."""
        if len(fact) == 0:
            raise BadNumber(0)
        word = fact[0]
        if word not in ITEMS:
            raise BadName(word)
        if len(fact) != ITEMS[word]:
            raise BadNumber(len(fact))
        if word == "map" and len(fact[1]) != len(self.names):
            raise BadNumber(len(fact[1]))
        strings = _strings(fact)
        check_among(self.names, strings)
        if word == "up":
            for at, name in enumerate(strings):
                if name in strings[:at]:
                    raise DuplicateName(name)

    def tell(self, fact, holds):
        """Tell whether a fact holds, unless no order would fit."""
        self._check(fact)
        left = _fitting(self._left[-1], fact, holds)
        if not left:
            return False
        self._told.append((_kept(fact), holds))
        self._left.append(left)
        return True

    def told(self):
        """Return the facts that were told, with whether they hold."""
        return list(self._told)

    def __len__(self):
        return len(self._told)

    def undo(self):
        """Take back what was told last."""
        if not self._told:
            raise NothingToUndo()
        self._told.pop()
        self._left.pop()

    def possible(self):
        """Yield all orders that fit, in ascending order of their texts."""
        for order in list(self._left[-1]):
            yield order

    def many(self):
        """Return the number of the orders that fit."""
        return len(self._left[-1])

    def knows(self, fact):
        """Tell if a fact holds in all orders that fit."""
        return self.says(fact) == "sure"

    def says(self, fact):
        """Return whether a fact holds: sure, never or open."""
        self._check(fact)
        return _verdict(self._left[-1], fact)

    def needless(self):
        """Return the indices of what was told that could be left out, each alone."""
        against = [[_holds(order, fact) != holds for fact, holds in self._told] for order in self._left[0]]
        # What alone is against some order is what bars it.
        barring = [row.index(True) for row in against if row.count(True) == 1]
        return [at for at in range(len(self._told)) if at not in barring]

    def best(self, *facts):
        """Return the index of the fact that leaves the fewest orders if its worse answer comes, or None."""
        for fact in facts:
            self._check(fact)
        orders = self._left[-1]
        worst = []
        for fact in facts:
            many = len(_fitting(orders, fact, True))
            worst.append(max(many, len(orders) - many))
        return worst.index(min(worst)) if worst else None

    def supposed(self, rows, fact):
        """Return what would be said of a fact if some rows were told as well, or None if no order would fit."""
        for told, _ in rows:
            self._check(told)
        self._check(fact)
        orders = self._left[-1]
        for told, holds in rows:
            orders = _fitting(orders, told, holds)
        return _verdict(orders, fact) if orders else None
