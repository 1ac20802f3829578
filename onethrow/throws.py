"""Throws of machines: tables of rising maps, and prices that show that no table has greater shares."""

from onethrow.errors import NoThrow
from onethrow.forests import dealt
from onethrow.maps import is_rising_map, maps_within
from onethrow.packing import packed
from onethrow.ratios import Ratio, scaled, total


def _pairs(machine):
    """Return the shares of all pairs of a beginning and a standing."""
    rows = machine.rows()
    return {(name, goal): rows[name].share(goal) for name in machine.beginnings for goal in machine.standings}


def _used(machine, rows):
    """Return how much of each pair of a beginning and a standing some rows of maps use up."""
    used = {pair: Ratio.whole(0) for pair in _pairs(machine)}
    for names, share in rows:
        for pair in zip(machine.beginnings, names):
            used[pair] = used[pair] + share
    return used


def _sum_of_rows(rows):
    """Return the sum of the shares of some rows."""
    return total([share for _, share in rows])


def _rises(machine, names):
    """Tell if some strings are a rising map of a machine."""
    return is_rising_map(machine.beginnings, machine.standings, names)


def is_part(machine, rows):
    """Tell if some rows are a rising part."""
    if not all([share.top > 0 and _rises(machine, names) for names, share in rows]):
        return False
    used = _used(machine, rows)
    return not any([share.under(used[pair]) for pair, share in _pairs(machine).items()])


def is_throw(machine, rows):
    """Tell if some rows are a throw."""
    return is_part(machine, rows) and _sum_of_rows(rows) == Ratio.whole(1)


def _packed_maps(machine):
    """Return the greatest part, and a price of each pair that the machine tells."""
    told = {pair: share for pair, share in _pairs(machine).items() if share}
    choices = {name: list(chance) for name, chance in machine.rows().items()}
    maps = list(maps_within(machine.beginnings, machine.standings, choices))
    rooms = {pair: at for at, pair in enumerate(told)}
    things = [[rooms[pair] for pair in zip(machine.beginnings, names)] for names in maps]
    weights, paid = packed(things, list(told.values()))
    rows = [(names, weight) for names, weight in zip(maps, weights) if weight]
    return (rows, dict(zip(told, paid)))


def greatest_part(machine):
    """Return a rising part with the greatest sum of shares."""
    rows, _ = _packed_maps(machine)
    return rows


def rising_share(machine):
    """Return the greatest sum of the shares of a rising part."""
    return _sum_of_rows(greatest_part(machine))


def prices(machine):
    """Return a price list whose cost is the rising share."""
    _, paid = _packed_maps(machine)
    # What the machine does not tell costs it nothing, so each map that goes there is paid at once.
    return {pair: paid.get(pair, Ratio.whole(1)) for pair in _pairs(machine)}


def is_price_list(machine, prices):
    """Tell if a dictionary is a price list."""
    pairs = _pairs(machine)
    if len(prices) != len(pairs) or not all([pair in prices for pair in pairs]):
        return False
    found, whole = scaled(list(prices.values()))
    if any([amount < 0 for amount in found]):
        return False
    amounts = dict(zip(prices, found))
    # A map with a pair that costs 1 or more is paid.
    choices = {
        name: [goal for goal in machine.standings if amounts[name, goal] < whole] for name in machine.beginnings
    }
    for names in maps_within(machine.beginnings, machine.standings, choices):
        if sum([amounts[pair] for pair in zip(machine.beginnings, names)]) < whole:
            return False
    return True


def price_cost(machine, prices):
    """Return the sum of the prices times the shares that the machine tells."""
    return total([prices[pair] * share for pair, share in _pairs(machine).items()])


def throw(machine):
    """Return a throw."""
    rows = greatest_part(machine)
    if _sum_of_rows(rows) != Ratio.whole(1):
        raise NoThrow()
    return rows


def joint(machine):
    """Return a joint table in which the maps that are not rising have the least sum of shares."""
    part = greatest_part(machine)
    used = _used(machine, part)
    lacking = Ratio.whole(1) - _sum_of_rows(part)
    # No map of what is left is rising: with it the part would be greater. So any table of it will do.
    rest = [((), lacking)] if lacking else []
    for name, chance in machine.rows().items():
        left = [(goal, chance.share(goal) - used[name, goal]) for goal in chance]
        rows = dealt(rest, [(goal, share) for goal, share in left if share])
        rest = [((*names, goal), share) for names, goal, share in rows]
    return sorted(part + rest, key=lambda row: row[0])


def is_joint(machine, rows):
    """Tell if some rows are a joint table."""
    for names, share in rows:
        if share.top <= 0 or len(names) != len(machine.beginnings):
            return False
        if not all([name in machine.standings for name in names]):
            return False
    used = _used(machine, rows)
    return all([used[pair] == share for pair, share in _pairs(machine).items()])


def harm(machine, rows):
    """Return the sum of the shares of the maps of a joint table that are not rising."""
    return _sum_of_rows([(names, share) for names, share in rows if not _rises(machine, names)])
