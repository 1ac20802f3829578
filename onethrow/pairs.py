"""Two chances in an order: which one is lower, and the tables of their pairs."""

from onethrow.ratios import Ratio, total
from onethrow.words import check_among


def barring(order, low, high):
    """Return the first up-set with a greater mass by low than by high, or None."""
    check_among(order, low)
    check_among(order, high)
    for names in order.ups():
        if high.mass(names).under(low.mass(names)):
            return names
    return None


def lower(order, low, high):
    """Tell if low is lower than or as low as high."""
    return barring(order, low, high) is None


def _upward(order):
    """Return all pairs of names of which the first is below or equal to the second, in ascending order."""
    return [(first, second) for first in order for second in order if order.below(first, second)]


def _most(ups, give, take, first, second):
    """Return how much can go from first to second such that what is left can still go up."""
    most = min(give[first], take[second])
    for names in ups:
        # What goes into this up-set from outside uses up what it may still take beyond what it gives.
        if second in names and first not in names:
            most = min(most, sum([take[name] - give[name] for name in names]))
    return most


def pair_table(order, low, high):
    """Return a pair table of two chances, or None if there is none."""
    if not lower(order, low, high):
        return None
    lows, highs, ups = low.weights(), high.weights(), order.ups()
    low_sum, high_sum = sum(lows.values()), sum(highs.values())
    give = {name: lows.get(name, 0) * high_sum for name in order}
    take = {name: highs.get(name, 0) * low_sum for name in order}
    rows = []
    # Each pair gets as much as it can. Later it could not get more, so one round is enough: if something were left,
    # a pair table of what is left (point 4.4) would have a pair that can get more.
    for first, second in _upward(order):
        part = _most(ups, give, take, first, second)
        if part > 0:
            give[first] = give[first] - part
            take[second] = take[second] - part
            rows.append((first, second, Ratio(part, low_sum * high_sum)))
    return rows


def _can_stand(order, first, second, share):
    """Tell if a row may stand in a pair table of some chances."""
    return share.top > 0 and first in order and second in order and order.below(first, second)


def _adds_up(order, chance, parts):
    """Tell if for each name its parts add up to its share."""
    return all([total([part for other, part in parts if other == name]) == chance.share(name) for name in order])


def is_pair_table(order, low, high, rows):
    """Tell if some rows are a pair table of two chances."""
    check_among(order, low)
    check_among(order, high)
    if not all([_can_stand(order, first, second, share) for first, second, share in rows]):
        return False
    firsts = [(first, share) for first, _, share in rows]
    seconds = [(second, share) for _, second, share in rows]
    return _adds_up(order, low, firsts) and _adds_up(order, high, seconds)
