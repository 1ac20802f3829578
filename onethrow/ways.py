"""All orders of at most four names at once.

A way tells of each two names that one of them is below the other one, or that they are not comparable. Ways in which
whatever follows from this is told as well are orders. The ways are numbered from 0 on, and some of them are kept as
one integer, in which just the bits with their numbers are set. So what is asked of hundreds of orders takes but a few
operations.
"""

from onethrow.orders import Order
from onethrow.shapes import arrangements


def _ways_below(names):
    """Return for each pair of names the ways in which the first one is below or equal to the second one."""
    below = {(name, name): 1 for name in names}
    many = 1
    for at, low in enumerate(names):
        for high in names[:at]:
            # Each way so far becomes three: the two names are not comparable, or the one or the other is below.
            below = {pair: ways | ways << many | ways << 2 * many for pair, ways in below.items()}
            below[(low, high)] = ((1 << many) - 1) << many
            below[(high, low)] = ((1 << many) - 1) << 2 * many
            many = 3 * many
    return below


def _orders(names, below):
    """Return the ways that are orders."""
    # No way has two names below each other, so only what follows from two steps can be lacking.
    found = below[(names[0], names[0])]
    for low, middle in below:
        for high in names:
            found = found & ~(below[(low, middle)] & below[(middle, high)] & ~below[(low, high)])
    return found


def _fours(names):
    """Return all rows of four different ones of at most four names."""
    return [way for way in arrangements(names) if len(way) == 4]


def _diamonds(names, below):
    """Return the ways with a diamond."""
    found = 0
    for x, y, z, w in _fours(names):
        sides = below[(x, y)] & below[(x, z)] & below[(y, w)] & below[(z, w)]
        found = found | sides & ~below[(y, z)] & ~below[(z, y)]
    return found


def _between(names, below, low, high):
    """Return the ways in which some other name is above one name and below another one."""
    found = 0
    for name in names:
        if name not in (low, high):
            found = found | below[(low, name)] & below[(name, high)]
    return found


def _joined(names, below):
    """Return for each two different names the ways in whose picture they are joined."""
    covers = {}
    for low, high in below:
        if low != high:
            covers[(low, high)] = below[(low, high)] & ~_between(names, below, low, high)
    return {(low, high): covers[(low, high)] | covers[(high, low)] for low, high in covers}


def _ringed(names, below):
    """Return the ways with a ring."""
    joined = _joined(names, below)
    found = 0
    # Of at most four names a ring has all four.
    for first, second, third, fourth in _fours(names):
        sides = joined[(first, second)] & joined[(second, third)] & joined[(third, fourth)]
        found = found | sides & joined[(fourth, first)]
    return found


def how_many(ways):
    """Return the number of some ways."""
    return f"{ways:b}".count("1")


class Ways:
    """The ways to order at most four names, given in ascending order."""

    def __init__(self, names):
        self.names = names
        self._below = _ways_below(names)
        self.orders = _orders(names, self._below)
        self.diamonds = self.orders & _diamonds(names, self._below)
        self.forests = self.orders & ~_ringed(names, self._below)
        # To make an order takes long beside the rest: so it is made when it is asked for first, and kept.
        self._made = {}

    def below(self, low, high):
        """Return the orders in which a name is below or equal to another one."""
        return self.orders & self._below[(low, high)]

    def with_up(self, names):
        """Return the orders in which some names are an up-set."""
        found = self.orders
        for low in names:
            for high in self.names:
                if high not in names:
                    found = found & ~self._below[(low, high)]
        return found

    def with_map(self, goals):
        """Return the orders in which a map to the names is rising."""
        taken = dict(zip(self.names, goals))
        found = self.orders
        for low, high in self._below:
            found = found & ~(self._below[(low, high)] & ~self._below[(taken[low], taken[high])])
        return found

    def _order(self, number):
        """Return the text and the order of a way that is one."""
        if number not in self._made:
            pairs = [pair for pair in self._below if self._below[pair] >> number & 1 == 1]
            order = Order(self.names, pairs)
            self._made[number] = (str(order), order)
        return self._made[number]

    def listed(self, ways):
        """Return some orders, told as ways, as a list in ascending order of their texts."""
        numbers = [number for number, bit in enumerate(f"{ways:b}"[::-1]) if bit == "1"]
        rows = sorted([self._order(number) for number in numbers], key=lambda row: row[0])
        return [order for _, order in rows]
