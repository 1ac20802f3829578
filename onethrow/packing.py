"""Packings of things into rooms, and prices of the rooms that show that no packing is greater.

Both are found together by the simplex method. It goes from packing to packing and keeps a line of integers for each
room, all over one common divisor. At first each line belongs to its room, which is empty; later some belong to
things. The first number of a line is the weight of the thing, or what is left of the room; the others, one for each
room, tell how this number grows with the limits. The last line has the sum of the weights instead, and so the prices.
"""

from onethrow.errors import BadNumber
from onethrow.ratios import Ratio, scaled, total


def _first_lines(amounts):
    """Return the lines while nothing is packed."""
    lines = []
    for at, amount in enumerate(amounts):
        lines.append([amount] + [1 if at == room else 0 for room in range(len(amounts))])
    return lines + [[0] * (len(amounts) + 1)]


def _entering(places, prices, divisor):
    """Return the thing, None for a room, and its places in the lines, that gains most by growing; None if none does."""
    found = None
    most = 0
    for at, rooms in enumerate(places):
        gain = divisor - sum([prices[room] for room in rooms])
        if gain > most:
            most, found = gain, (at, rooms)
    for room in range(1, len(prices)):
        if -prices[room] > most:
            most, found = -prices[room], (None, [room])
    return found


def _column(lines, divisor, thing, rooms):
    """Return by how much each first number of the lines falls as a thing or a room grows."""
    column = [sum([line[room] for room in rooms]) for line in lines]
    if thing is not None:
        column[-1] = column[-1] - divisor
    return column


def _is_sooner(line, fall, other, other_fall):
    """Tell if a line is used up before another one."""
    # If both are used up at once, the later numbers decide as if the limits were a little greater. So no packing
    # comes again, and the method ends.
    for one, two in zip(line, other):
        if one * other_fall != two * fall:
            return one * other_fall < two * fall
    return False


def _leaving(lines, column):
    """Return the index of the line that is used up first."""
    found = None
    for at in range(len(lines) - 1):
        if column[at] > 0 and (found is None or _is_sooner(lines[at], column[at], lines[found], column[found])):
            found = at
    return found


def _changed(line, fall, leaving, pivot, divisor):
    """Return a line after another one has left; its integers have the pivot as their divisor then."""
    if fall == 0 and pivot == divisor:
        return line
    # The numbers are minors of the table, so this leaves no remainder.
    return [(one * pivot - fall * two) // divisor for one, two in zip(line, leaving)]


def _solved(places, lines):
    """Return the last lines, the thing to which each belongs, None for rooms, and the divisor."""
    owners = [None for _ in lines[1:]]
    divisor = 1
    entering = _entering(places, lines[-1], divisor)
    while entering is not None:
        thing, rooms = entering
        column = _column(lines, divisor, thing, rooms)
        at = _leaving(lines, column)
        leaving, pivot = lines[at], column[at]
        lines = [
            leaving if index == at else _changed(line, column[index], leaving, pivot, divisor)
            for index, line in enumerate(lines)
        ]
        owners[at] = thing
        divisor = pivot
        entering = _entering(places, lines[-1], divisor)
    return (lines, owners, divisor)


def packed(things, limits):
    """Return a packing and a pricing with equal sums."""
    for at, rooms in enumerate(things):
        if len(rooms) == 0:
            raise BadNumber(at)
    amounts, scale = scaled(limits)
    # The first number of a line is no room's, so the rooms have their places one further.
    places = [[room + 1 for room in rooms] for rooms in things]
    lines, owners, divisor = _solved(places, _first_lines(amounts))
    weights = [Ratio.whole(0) for _ in things]
    for thing, line in zip(owners, lines):
        if thing is not None:
            weights[thing] = Ratio(line[0], divisor * scale)
    return (weights, [Ratio(price, divisor) for price in lines[-1][1:]])


def is_packing(things, limits, weights):
    """Tell if some ratios are a packing."""
    if len(weights) != len(things) or any([weight.top < 0 for weight in weights]):
        return False
    for room, limit in enumerate(limits):
        if limit.under(total([weight for rooms, weight in zip(things, weights) if room in rooms])):
            return False
    return True


def is_pricing(things, count, prices):
    """Tell if some ratios are a pricing of a number of rooms."""
    if len(prices) != count or any([price.top < 0 for price in prices]):
        return False
    return not any([total([prices[room] for room in rooms]).under(Ratio.whole(1)) for rooms in things])


def sum_of(weights):
    """Return the sum of the weights."""
    return total(weights)


def cost(limits, prices):
    """Return the sum of the prices times the limits."""
    return total([limit * price for limit, price in zip(limits, prices)])
