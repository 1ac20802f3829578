"""What several of the tests need."""

from fractions import Fraction
from itertools import product

from onethrow.orders import Order
from onethrow.ratios import Ratio


def raised(kind, call, *arguments):
    """Return the attributes of the error that a call raises, which is of just this class."""
    try:
        call(*arguments)
    except kind as error:
        assert type(error) is kind
        return vars(error)
    raise AssertionError("no error")


def fraction(ratio):
    """Return a ratio as a fraction of Python's own."""
    return Fraction(ratio.top, ratio.bottom)


def orders_up_to(size):
    """Return all orders of up to so many names, a and what follows, once each."""
    found = []
    for count in range(1, size + 1):
        names = "abcdefgh"[:count]
        pairs = [(low, high) for low in names for high in names if low != high]
        for chosen in range(2 ** len(pairs)):
            told = [pair for at, pair in enumerate(pairs) if chosen >> at & 1]
            if is_closed(told):
                found.append(Order(names, told))
    return found


def is_closed(pairs):
    """Tell if some pairs are all the pairs of an order."""
    known = set(pairs)
    for low, middle in pairs:
        if (middle, low) in known or any((low, high) not in known for base, high in pairs if base == middle):
            return False
    return True


def rises(beginnings, standings, names):
    """Tell if a map is rising, by all comparable names."""
    goals = dict(zip(beginnings.names, names))
    return all(standings.below(goals[low], goals[high]) for low, high in beginnings.pairs())


def all_maps(beginnings, standings):
    """Return all maps, in ascending order."""
    return list(product(standings.names, repeat=len(beginnings)))


def shares_of(machine):
    """Return what a machine tells, as fractions of the pairs of a beginning and a standing."""
    return {(name, goal): fraction(machine.row(name).share(goal))
            for name in machine.beginnings.names for goal in machine.standings.names}


def used_up(machine, rows):
    """Return what some rows of maps use up of each pair, after a look at their kinds and their order."""
    assert type(rows) is list
    maps = [names for names, _ in rows]
    assert maps == sorted(set(maps))
    used = {pair: Fraction(0) for pair in shares_of(machine)}
    for names, share in rows:
        assert [type(names), len(names), type(share)] == [tuple, len(machine.beginnings), Ratio]
        assert share.top > 0
        for pair in zip(machine.beginnings.names, names):
            used[pair] += fraction(share)
    return used


def rising_sum(machine, rows):
    """Return the sum of the shares of the rising maps of some rows."""
    return sum((fraction(share) for names, share in rows if rises(machine.beginnings, machine.standings, names)),
               Fraction(0))


def some_numbers(count, limit, state=12345):
    """Return some integers from 0 on below a limit, always the same ones."""
    found = []
    for _ in range(count):
        state = (state * 1103515245 + 12345) % 2 ** 31
        found.append(state // 2 ** 16 % limit)
    return found
