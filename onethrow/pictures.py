"""Pictures of orders: their rings, diamonds and crowns, and the retractions onto these."""

from onethrow.errors import NoRing
from onethrow.maps import first_within


def _joined(order):
    """Return for each name the names that the picture joins to it."""
    joined = {name: [] for name in order}
    for low, high in order.covers():
        joined[low].append(high)
        joined[high].append(low)
    return joined


def _beside(names, at):
    """Return the two names next to the one with an index in a ring."""
    return (names[at - 1], names[(at + 1) % len(names)])


def is_ring(order, names):
    """Tell if some names are a ring."""
    if len(names) < 4 or len(set(names)) < len(names) or not all([name in order for name in names]):
        return False
    joined = _joined(order)
    return all([name in joined[names[at - 1]] for at, name in enumerate(names)])


def _is_low(order, names, at):
    """Tell if the name with an index in a ring is below both names next to it."""
    return all([order.below(names[at], other) for other in _beside(names, at)])


def _is_high(order, names, at):
    """Tell if the name with an index in a ring is above both names next to it."""
    return all([order.below(other, names[at]) for other in _beside(names, at)])


def lows(order, ring):
    """Return the lows of a ring, in ascending order."""
    return sorted([name for at, name in enumerate(ring) if _is_low(order, ring, at)])


def _rings(order):
    """Return all rings, each written in the way that comes first."""
    joined = _joined(order)
    found = []
    ways = [(name,) for name in order]
    while ways:
        # Of both directions only the one with the lesser second name counts.
        found = found + [way for way in ways if len(way) > 3 and way[0] in joined[way[-1]] and way[1] < way[-1]]
        ways = [(*way, name) for way in ways for name in joined[way[-1]] if name > way[0] and name not in way]
    return found


def ring(order):
    """Return the first one of the shortest rings with the fewest lows, or None."""
    rings = _rings(order)
    if not rings:
        return None
    return list(min(rings, key=lambda way: (len(lows(order, way)), len(way), way)))


def is_forest(order):
    """Tell if an order has no ring."""
    return ring(order) is None


def diamond(order):
    """Return the first diamond, or None."""
    above = {name: [high for low, high in order.pairs() if low == name] for name in order}
    found = [
        (x, y, z, w) for x in order for y in above[x] for z in above[x]
        if y < z and z not in above[y] and y not in above[z]
        for w in above[y] if w in above[z]
    ]
    return found[0] if found else None


def is_crown(order, names):
    """Tell if some names are a crown."""
    if len(names) < 4 or len(names) % 2 == 1 or not all([name in order for name in names]):
        return False
    for at, low in enumerate(names):
        beside = [(at - 1) % len(names), (at + 1) % len(names)] if at % 2 == 0 else []
        over = [to for to, high in enumerate(names) if to != at and order.below(low, high)]
        if over != sorted(beside):
            return False
    return True


def crown(order):
    """Return the crown of the lows and highs of the ring, or None if there is no ring or a diamond."""
    names = ring(order)
    if names is None or diamond(order) is not None:
        return None
    turns = [name for at, name in enumerate(names) if _is_low(order, names, at) or _is_high(order, names, at)]
    start = turns.index(lows(order, names)[0])
    turns = turns[start:] + turns[:start]
    if turns[-1] < turns[1]:
        return turns[:1] + turns[:0:-1]
    return turns


def is_retraction(order, taken, names):
    """Tell if a dictionary is a retraction of an order onto some names."""
    if sorted(taken) != list(order) or not all([goal in names for goal in taken.values()]):
        return False
    if not all([name in taken and taken[name] == name for name in names]):
        return False
    return all([order.below(taken[low], taken[high]) for low, high in order.pairs()])


def retraction(order):
    """Return a retraction onto the diamond, or onto the crown if there is no diamond."""
    names = diamond(order)
    if names is None:
        names = crown(order)
    if names is None:
        raise NoRing()
    goals = first_within(order, order, {name: [name] if name in names else names for name in order})
    return dict(zip(order, goals))
