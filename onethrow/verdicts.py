"""Orders on which every rising machine has a throw, and rising machines without one on all others."""

from onethrow.chances import Chance
from onethrow.machines import Machine
from onethrow.pictures import crown, diamond, is_forest, retraction
from onethrow.ratios import Ratio


def always(order):
    """Tell if every rising machine on an order has a throw."""
    return is_forest(order)


def _from_diamond(names):
    """Return where the machine goes from each name of a diamond, with what that costs."""
    x, y, z, w = names
    half, nothing = Ratio(1, 2), Ratio.whole(0)
    return {
        x: {x: half, y: nothing},
        y: {y: half, z: nothing},
        z: {x: nothing, w: nothing},
        w: {y: nothing, w: half},
    }


def _from_small_crown(names):
    """Return where the machine goes from each name of a crown of two lows, with what that costs."""
    a1, b1, a2, b2 = names
    third, nothing = Ratio(1, 3), Ratio.whole(0)
    return {
        a1: {a1: third, a2: third, b1: nothing},
        a2: {a1: third, a2: third, b2: nothing},
        b1: {a1: nothing, b1: third, b2: third},
        b2: {a2: nothing, b1: third, b2: third},
    }


def _from_crown(names):
    """Return where the machine goes from each name of a crown of three lows or more, with what that costs."""
    lows, highs = names[::2], names[1::2]
    last = len(lows) - 1
    goals = {lows[last]: lows[:2], highs[last]: lows[:2], highs[last - 1]: [highs[0], highs[last]]}
    for at in range(last):
        goals[lows[at]] = [lows[0], lows[at + 1]]
    for at in range(last - 1):
        goals[highs[at]] = [lows[0], highs[at + 1]]
    table = {name: {goal: Ratio.whole(0) for goal in goals[name]} for name in names}
    table[lows[0]][lows[0]] = Ratio.whole(1)
    return table


def _table(order):
    """Return where the machine goes from the names of the diamond or the crown of an order, with what that costs."""
    names = diamond(order)
    if names is not None:
        return _from_diamond(names)
    found = crown(order)
    return _from_small_crown(found) if len(found) == 4 else _from_crown(found)


def _price(table, name, goal):
    """Return the price of a pair of a beginning and a standing."""
    if name not in table:
        return Ratio.whole(0)
    return table[name].get(goal, Ratio.whole(1))


def bad_machine(order):
    """Return a rising machine on an order without a throw, and a price list that shows that it has none."""
    taken = retraction(order)
    table = _table(order)
    rows = {name: Chance({goal: 1 for goal in table[taken[name]]}) for name in order}
    told = {(name, goal): _price(table, name, goal) for name in order for goal in order}
    return (Machine(order, order, rows), told)
