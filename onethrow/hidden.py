"""A hidden order, of which true things are told."""

from onethrow.errors import BadName, BadNumber, DuplicateName, NothingToUndo
from onethrow.ways import Ways, how_many
from onethrow.words import check_among, check_names

MOST_TOLD = 4
# The first word of each fact, with the number of its items.
ITEMS = {"below": 3, "up": 2, "map": 2, "forest": 1, "diamond": 1}


def _strings(fact):
    """Return the names in a fact, in order."""
    word, *items = fact
    return list(items) if word == "below" else [name for names in items for name in names]


def _kept(fact):
    """Return a fact with a tuple in the place of a list."""
    return tuple([tuple(item) if isinstance(item, list) else item for item in fact])


class Hidden:
    """An order of told names that is not known, and what is told of it."""

    def __init__(self, names):
        if not 1 <= len(names) <= MOST_TOLD:
            raise BadNumber(len(names))
        check_names(names)
        self.names = tuple(sorted(names))
        self._ways = Ways(self.names)
        self._told = []
        # For each thing that is told, the orders that fit it alone.
        self._fitting = []
        # The orders that fit, ahead of all that is told and behind each thing that is told.
        self._left = [self._ways.orders]

    def _check(self, fact):
        """Raise an error if a fact is none of the told names."""
        if len(fact) == 0:
            raise BadNumber(0)
        word = fact[0]
        if word not in ITEMS:
            raise BadName(word)
        if len(fact) != ITEMS[word]:
            raise BadNumber(len(fact))
        if word == "map" and len(fact[1]) != len(self.names):
            raise BadNumber(len(fact[1]))
        strings = _strings(fact)
        check_among(self.names, strings)
        if word == "up":
            for at, name in enumerate(strings):
                if name in strings[:at]:
                    raise DuplicateName(name)

    def _holding(self, fact):
        """Return the orders in which a fact holds."""
        word, *items = fact
        if word == "below":
            return self._ways.below(items[0], items[1])
        if word == "up":
            return self._ways.with_up(items[0])
        if word == "map":
            return self._ways.with_map(items[0])
        return self._ways.forests if word == "forest" else self._ways.diamonds

    def _agreeing(self, fact, holds):
        """Return the orders in which a fact holds, or those in which it does not hold."""
        ways = self._holding(fact)
        return ways if holds else self._ways.orders & ~ways

    def _verdict(self, ways, fact):
        """Return whether a fact holds in some orders, of which there is one at least."""
        among = ways & self._holding(fact)
        if among == ways:
            return "sure"
        return "open" if among != 0 else "never"

    def tell(self, fact, holds):
        """Tell whether a fact holds, unless no order would fit."""
        self._check(fact)
        agreeing = self._agreeing(fact, holds)
        left = self._left[-1] & agreeing
        if left == 0:
            return False
        self._told.append((_kept(fact), holds))
        self._fitting.append(agreeing)
        self._left.append(left)
        return True

    def told(self):
        """Return the facts that were told, with whether they hold."""
        return list(self._told)

    def __len__(self):
        return len(self._told)

    def undo(self):
        """Take back what was told last."""
        if not self._told:
            raise NothingToUndo()
        self._told.pop()
        self._fitting.pop()
        self._left.pop()

    def possible(self):
        """Yield all orders that fit, in ascending order of their texts."""
        for order in self._ways.listed(self._left[-1]):
            yield order

    def many(self):
        """Return the number of the orders that fit."""
        return how_many(self._left[-1])

    def knows(self, fact):
        """Tell if a fact holds in all orders that fit."""
        return self.says(fact) == "sure"

    def says(self, fact):
        """Return whether a fact holds: sure, never or open."""
        self._check(fact)
        return self._verdict(self._left[-1], fact)

    def needless(self):
        """Return the indices of what was told that could be left out, each alone."""
        found = []
        # The orders that fit all that is told behind an index.
        behind = self._ways.orders
        for at in range(len(self._told) - 1, -1, -1):
            if self._left[at] & behind == self._left[-1]:
                found.append(at)
            behind = behind & self._fitting[at]
        return found[::-1]

    def best(self, *facts):
        """Return the index of the fact that leaves the fewest orders if its worse answer comes, or None."""
        for fact in facts:
            self._check(fact)
        ways = self._left[-1]
        worst = []
        for fact in facts:
            many = how_many(ways & self._holding(fact))
            worst.append(max(many, how_many(ways) - many))
        return worst.index(min(worst)) if worst else None

    def supposed(self, rows, fact):
        """Return what would be said of a fact if some rows were told as well, or None if no order would fit."""
        for told, _ in rows:
            self._check(told)
        self._check(fact)
        ways = self._left[-1]
        for told, holds in rows:
            ways = ways & self._agreeing(told, holds)
        return self._verdict(ways, fact) if ways != 0 else None
