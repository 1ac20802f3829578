"""Maps from one order to another one, and which of them are rising."""

from onethrow.errors import BadNumber
from onethrow.words import check_among


def check_map(beginnings, standings, names):
    """Raise an error if some strings are no map."""
    if len(names) != len(beginnings):
        raise BadNumber(len(names))
    check_among(standings, names)


def broken_pair(beginnings, standings, names):
    """Return the first cover along which a map does not rise, or None."""
    check_map(beginnings, standings, names)
    goals = dict(zip(beginnings, names))
    for low, high in beginnings.covers():
        if not standings.below(goals[low], goals[high]):
            return (low, high)
    return None


def is_rising_map(beginnings, standings, names):
    """Tell if some strings are a rising map."""
    if len(names) != len(beginnings) or not all([name in standings for name in names]):
        return False
    return broken_pair(beginnings, standings, names) is None


def _links(beginnings, standings):
    """Return for each beginning the other names of its covers, with what may stand there beside each standing."""
    above = {name: [other for other in standings if standings.below(name, other)] for name in standings}
    under = {name: [other for other in standings if standings.below(other, name)] for name in standings}
    links = {name: [] for name in beginnings}
    for low, high in beginnings.covers():
        links[low].append((high, above))
        links[high].append((low, under))
    return links


def _narrowed(links, choices, changed):
    """Return the choices of standings that are left when those of some beginnings have become fewer."""
    left = dict(choices)
    todo = list(changed)
    while todo:
        name = todo.pop()
        for other, beside in links[name]:
            kept = [goal for goal in left[other] if any([goal in beside[base] for base in left[name]])]
            if len(kept) < len(left[other]):
                left[other] = kept
                todo.append(other)
    return left


def _chosen(links, choices):
    """Yield the rising maps to some narrowed choices, in ascending order."""
    if not all([len(choices[name]) > 0 for name in choices]):
        return
    doubtful = [name for name in choices if len(choices[name]) > 1]
    # Narrowed choices without a doubt rise along each cover.
    if not doubtful:
        yield tuple([choices[name][0] for name in choices])
        return
    for goal in choices[doubtful[0]]:
        left = _narrowed(links, {**choices, doubtful[0]: [goal]}, doubtful[:1])
        yield from _chosen(links, left)


def maps_within(beginnings, standings, choices):
    """Yield the rising maps that take each beginning to one of its choices, in ascending order."""
    links = _links(beginnings, standings)
    left = _narrowed(links, {name: sorted(choices[name]) for name in beginnings}, beginnings)
    yield from _chosen(links, left)


def first_within(beginnings, standings, choices):
    """Return the first rising map that takes each beginning to one of its choices, or None."""
    for names in maps_within(beginnings, standings, choices):
        return names
    return None


def rising_maps(beginnings, standings):
    """Yield all rising maps, in ascending order."""
    choices = {name: list(standings) for name in beginnings}
    yield from maps_within(beginnings, standings, choices)


def count_maps(beginnings, standings):
    """Return the number of the rising maps."""
    found = list(rising_maps(beginnings, standings))
    return len(found)


def extended(beginnings, standings, told):
    """Return the first rising map that takes some beginnings where it is told, or None."""
    check_among(beginnings, sorted(told))
    check_among(standings, [told[name] for name in sorted(told)])
    choices = {name: [told[name]] if name in told else list(standings) for name in beginnings}
    return first_within(beginnings, standings, choices)


def composed(middle, first, second):
    """Return the map that goes by the first map to an order, and then by the second one."""
    if len(second) != len(middle):
        raise BadNumber(len(second))
    check_among(middle, first)
    goals = dict(zip(middle, second))
    return tuple([goals[name] for name in first])


def is_below_map(standings, first, second):
    """Tell if the first map takes nothing higher than the second one does."""
    if len(first) != len(second):
        raise BadNumber(len(second))
    # All names are asked for, so that each unknown one is found.
    return all([standings.below(low, high) for low, high in zip(first, second)])


def image(names):
    """Return the ascending list of the strings of a map."""
    return sorted(set(names))


def settled(order, names):
    """Return the names that a map from an order to itself leaves where they are."""
    check_map(order, order, names)
    return [name for name, goal in zip(order, names) if name == goal]
