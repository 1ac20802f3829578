"""Orders of up to eight names."""

from onethrow.errors import BadNumber, BadText, DuplicateName, Ring, UnknownName
from onethrow.words import check_among, check_names

MOST_NAMES = 8


def _closure(names, pairs):
    """Return for each name the ascending tuple of the names that are above or equal to it."""
    above = {name: {name: True} for name in names}
    for low, high in pairs:
        above[low][high] = True
    for middle in names:
        for name in names:
            if middle in above[name]:
                above[name] = {**above[name], **above[middle]}
    return {name: tuple(sorted(above[name])) for name in names}


def _are_words(words):
    """Tell if each string of a list is a word, as names in texts are."""
    return all([word != "" and not any([sign in word for sign in " ;<"]) for word in words])


class Order:
    """An order of names: each two are one below the other, or not comparable."""

    def __init__(self, names, pairs):
        if not 1 <= len(names) <= MOST_NAMES:
            raise BadNumber(len(names))
        check_names(names)
        for pair in pairs:
            check_among(names, pair)
        self.names = tuple(sorted(names))
        self._above = _closure(self.names, pairs)
        joined = self.pairs()
        ringed = [low for low in self.names if any([(high, low) in joined for high in self._above[low]])]
        if ringed:
            raise Ring(ringed)

    @classmethod
    def chain(cls, *names):
        """Return the order in which each name is below all later ones."""
        return cls(names, list(zip(names, names[1:])))

    @classmethod
    def crown(cls, size):
        """Return the order of some lows and as many highs, each next to two of the others."""
        if not 2 <= size <= 4:
            raise BadNumber(size)
        lows = [f"a{k}" for k in range(1, size + 1)]
        highs = [f"b{k}" for k in range(1, size + 1)]
        # Index -1 is the last high, so the first low closes the crown.
        pairs = [(lows[k], highs[at]) for k in range(size) for at in (k, k - 1)]
        return cls(lows + highs, pairs)

    @classmethod
    def read(cls, text):
        """Return the order of a text, whose pairs need not be covers."""
        head, *parts = text.split("; ")
        names = head.split(" ")
        if not _are_words(names):
            raise BadText(0)
        pairs = []
        for at, part in enumerate(parts, start=1):
            words = part.split(" < ")
            if len(words) != 2 or not _are_words(words):
                raise BadText(at)
            pairs.append((words[0], words[1]))
        return cls(names, pairs)

    def below(self, low, high):
        """Tell if low is below or equal to high."""
        check_among(self.names, (low, high))
        return high in self._above[low]

    def pairs(self):
        """Return all pairs of different names, the low one first."""
        return [(low, high) for low in self.names for high in self._above[low] if low != high]

    def covers(self):
        """Return the pairs between whose names there is no other one."""
        return [(low, high) for low, high in self.pairs() if len(self._between(low, high)) == 2]

    def _between(self, low, high):
        """Return the names from low to high, both included."""
        return [name for name in self._above[low] if high in self._above[name]]

    def ups(self):
        """Return all up-sets, the small ones first."""
        found = [()]
        # A name has fewer names above it than each name below it has, so it comes ahead of those.
        for name in sorted(self.names, key=lambda word: len(self._above[word])):
            found = found + [(*names, name) for names in found if self._is_ready(name, names)]
        return sorted(sorted([tuple(sorted(names)) for names in found]), key=len)

    def _is_ready(self, name, names):
        """Tell if some names have all the other names above a name."""
        return all([high in names for high in self._above[name] if high != name])

    def turned(self):
        """Return the order in which everything is the other way round."""
        return Order(self.names, [(high, low) for low, high in self.pairs()])

    def part(self, names):
        """Return the order of some of the names."""
        for at, name in enumerate(names):
            if name in names[:at]:
                raise DuplicateName(name)
            if name not in self.names:
                raise UnknownName(name)
        return Order(names, [(low, high) for low, high in self.pairs() if low in names and high in names])

    def __contains__(self, name):
        return name in self.names

    def __len__(self):
        return len(self.names)

    def __iter__(self):
        return iter(self.names)

    def __eq__(self, other):
        return isinstance(other, Order) and self.names == other.names and self._above == other._above

    def __str__(self):
        return "; ".join([" ".join(self.names), *[f"{low} < {high}" for low, high in self.covers()]])
