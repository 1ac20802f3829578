"""Back in time: throws of maps, made one after another, until they take everything to one standing."""

from onethrow.chances import Chance, in_proportion
from onethrow.errors import BadNumber, BadShares
from onethrow.machines import Machine, check_like
from onethrow.maps import check_map, composed, image
from onethrow.ratios import Ratio, total


def _check_table(beginnings, standings, rows):
    """Raise an error if some rows are no table of maps."""
    for names, share in rows:
        check_map(beginnings, standings, names)
        if share.top <= 0:
            raise BadNumber(share)
    found = total([share for _, share in rows])
    if found != Ratio.whole(1):
        raise BadShares(found)


def machine_of(beginnings, standings, rows):
    """Return the machine that goes along one of the maps of a table, each as likely as its share."""
    _check_table(beginnings, standings, rows)
    chances = {}
    for at, name in enumerate(beginnings):
        chances[name] = Chance.shared([(names[at], share) for names, share in rows])
    return Machine(beginnings, standings, chances)


def _check_steps(order, rows, steps):
    """Raise an error if some rows are no table of maps from an order to itself, or the steps are below 0."""
    _check_table(order, order, rows)
    if steps < 0:
        raise BadNumber(steps)


def _ways_on(order, ways, weights, seen):
    """Return in how many ways one more throw comes to what is seen of a map, for the ways so far."""
    found = {}
    for before, many in ways.items():
        for names, weight in weights.items():
            # All throws are alike, so the new one may pick the map of the last step as well as of the first.
            behind = seen(composed(order, before, names))
            found[behind] = found.get(behind, 0) + many * weight
    return found


def _shares_behind(order, rows, steps, seen):
    """Return the share of the throws for what is seen of the maps that they are together."""
    weights = in_proportion(rows)
    ways = {seen(order.names): 1}
    for _ in range(steps):
        ways = _ways_on(order, ways, weights, seen)
    bottom = sum(ways.values())
    return {names: Ratio(ways[names], bottom) for names in sorted(ways)}


def thrown(order, rows, steps):
    """Return the table of the maps that so many throws are together."""
    _check_steps(order, rows, steps)
    shares = _shares_behind(order, rows, steps, lambda names: names)
    return list(shares.items())


def landed(order, rows, steps):
    """Return for each name the share of the throws that take everything to it."""
    _check_steps(order, rows, steps)
    # There are far fewer images than maps, and to go on from a map its image is enough.
    shares = _shares_behind(order, rows, steps, lambda names: tuple(image(names)))
    return {name: shares.get((name,), Ratio.whole(0)) for name in order}


def together(order, rows, steps):
    """Return the share of the throws that take everything to one standing."""
    return total(list(landed(order, rows, steps).values()))


def ended(order, rows, throws):
    """Return how many throws it takes until everything comes to one standing, and this standing, or None."""
    _check_table(order, order, rows)
    for at in throws:
        if not 0 <= at < len(rows):
            raise BadNumber(at)
    maps = [order.names]
    for at in throws:
        names, _ = rows[at]
        maps.append(composed(order, names, maps[-1]))
    for count, names in enumerate(maps):
        if len(image(names)) == 1:
            return (count, names[0])
    return None


def meets(order, rows):
    """Tell if some throws are together a map that takes everything to one standing."""
    _check_table(order, order, rows)
    goals = [dict(zip(order, names)) for names, _ in rows]
    pairs = [(one, other) for one in order for other in order]
    met = {pair: True for pair in pairs if pair[0] == pair[1]}
    known = 0
    while known < len(met):
        known = len(met)
        for one, other in pairs:
            if any([(goal[one], goal[other]) in met for goal in goals]):
                met[one, other] = True
    # If each two names can meet somewhere, one pair after another is made to meet until there is one standing.
    return known == len(pairs)


def _reached(machine, name):
    """Return the names to which a machine may come from a name, itself included."""
    found = [name]
    for _ in machine.beginnings:
        found = image([goal for known in found for goal in [known, *machine.row(known)]])
    return found


def closed_sets(machine):
    """Return the least sets of names that a machine never leaves."""
    check_like(machine.beginnings, machine.standings)
    reached = {name: _reached(machine, name) for name in machine.beginnings}
    return [
        names for name, names in reached.items()
        if name == names[0] and all([reached[other] == names for other in names])
    ]


def _proportion_at_rest(moves, names):
    """Return numbers in the proportion of the resting shares of some names, between which all moves lead."""
    *others, last = names
    if not others:
        return {last: Ratio.whole(1)}
    away = total([moves[last, name] for name in others])
    # Seen without the last name, each move to it is a move to where it is left for.
    past = {
        (low, high): moves[low, high] + moves[low, last] * moves[last, high].quotient(away)
        for low in others for high in others
    }
    found = _proportion_at_rest(past, others)
    come = total([found[name] * moves[name, last] for name in others])
    return {**found, last: come.quotient(away)}


def _at_rest(machine, names):
    """Return the chance of the names of a closed set that a machine keeps."""
    moves = {(low, high): machine.row(low).share(high) for low in names for high in names}
    found = _proportion_at_rest(moves, names)
    whole = total(list(found.values()))
    return Chance.shared([(name, found[name].quotient(whole)) for name in names])


def resting(machine):
    """Return for each closed set the chance that a machine keeps."""
    return [_at_rest(machine, names) for names in closed_sets(machine)]


def bounds(order, rows, steps):
    """Return for each name the share that has landed there, and this with all that has not landed anywhere."""
    lands = landed(order, rows, steps)
    rest = Ratio.whole(1) - total(list(lands.values()))
    return {name: (share, share + rest) for name, share in lands.items()}
