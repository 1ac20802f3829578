"""Throws along a forest: maps that rise along the covers that join all names without a ring."""

from onethrow.errors import BadShares, HasRing
from onethrow.pairs import pair_table
from onethrow.pictures import ring
from onethrow.ratios import Ratio, total


def spanning(order):
    """Return the covers, kept one by one, that join names that were not joined yet."""
    # Each piece has the name of one of its names; a cover that is kept makes two pieces one.
    pieces = {name: name for name in order}
    kept = []
    for low, high in order.covers():
        one, other = pieces[low], pieces[high]
        if one != other:
            kept.append((low, high))
            pieces = {name: one if pieces[name] == other else pieces[name] for name in order}
    return kept


def growth(order):
    """Return the names in an order in which each, where possible, is joined by a kept cover to an earlier one."""
    kept = spanning(order)
    links = sorted(kept + [(high, low) for low, high in kept])
    grown = []
    while len(grown) < len(order):
        names = [name for name, _ in grown]
        joined = [(name, known) for name, known in links if known in names and name not in names]
        alone = [(name, None) for name in order if name not in names]
        grown.append(joined[0] if joined else alone[0])
    return grown


def dealt(first, second):
    """Return what goes together if the shares of two lists are used up in order."""
    wanted = total([share for _, share in second])
    if wanted != total([share for _, share in first]):
        raise BadShares(wanted)
    rows = []
    waiting = list(second[::-1])
    for thing, share in first:
        left = share
        while left:
            other, most = waiting.pop()
            part = most if most.under(left) else left
            rows.append((thing, other, part))
            left = left - part
            if part != most:
                waiting.append((other, most - part))
    return rows


def _rows_beside(machine, kept, name, known):
    """Return a pair table of the chances of two names that a kept cover joins, the known name's standings first."""
    if (name, known) in kept:
        table = pair_table(machine.standings, machine.row(name), machine.row(known))
        return [(base, goal, share) for goal, base, share in table]
    return pair_table(machine.standings, machine.row(known), machine.row(name))


def _joint_to(machine, kept, rows, link):
    """Return rows of standings of some beginnings, with one more, which is joined to a known one or to none."""
    name, known = link
    if known is None:
        chance = machine.row(name)
        pairs = dealt(rows, [(goal, chance.share(goal)) for goal in chance])
        return [({**goals, name: goal}, share) for goals, goal, share in pairs]
    table = _rows_beside(machine, kept, name, known)
    found = []
    for base in machine.row(known):
        told = [(goals, share) for goals, share in rows if goals[known] == base]
        pairs = dealt(told, [(goal, share) for other, goal, share in table if other == base])
        found = found + [({**goals, name: goal}, share) for goals, goal, share in pairs]
    return found


def joint_along(machine):
    """Return a joint table of a rising machine whose maps rise along the kept covers."""
    machine.check()
    kept = spanning(machine.beginnings)
    rows = [({}, Ratio.whole(1))]
    for link in growth(machine.beginnings):
        rows = _joint_to(machine, kept, rows, link)
    told = [(tuple([goals[name] for name in machine.beginnings]), share) for goals, share in rows]
    return sorted(told, key=lambda row: row[0])


def forest_throw(machine):
    """Return a throw of a rising machine whose beginnings are a forest."""
    names = ring(machine.beginnings)
    if names is not None:
        raise HasRing(names)
    # A forest keeps all its covers, so the maps are rising.
    return joint_along(machine)
