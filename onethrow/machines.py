"""Machines of chances: from each beginning they go to the standings by a chance."""

from onethrow.chances import Chance
from onethrow.errors import BadNumber, BadText, DuplicateName, NotRising, UnknownName, UnlikeOrders
from onethrow.pairs import barring
from onethrow.words import check_among, wrong_word


def check_like(first, second):
    """Raise an error if two orders are not equal."""
    if first != second:
        raise UnlikeOrders(first, second)


def _read_parts(text):
    """Return the first word of each part of a text, with the text of the chance behind it."""
    parts = []
    for at, part in enumerate(text.split("; ")):
        word, _, told = part.partition(": ")
        if word == "" or " " in word or wrong_word(told.split(" ")) is not None:
            raise BadText(at)
        parts.append((word, told))
    return parts


def _check_words(beginnings, words):
    """Raise the error of the first word that is no beginning or comes again, then of their number."""
    for at, word in enumerate(words):
        if word not in beginnings:
            raise UnknownName(word)
        if word in words[:at]:
            raise DuplicateName(word)
    if len(words) != len(beginnings):
        raise BadNumber(len(words))


class Machine:
    """A chance of standings for each beginning."""

    def __init__(self, beginnings, standings, rows):
        check_among(beginnings, sorted(rows))
        if len(rows) != len(beginnings):
            raise BadNumber(len(rows))
        for name in beginnings:
            check_among(standings, rows[name])
        self.beginnings = beginnings
        self.standings = standings
        self._rows = {name: rows[name] for name in beginnings}

    @classmethod
    def still(cls, order):
        """Return the machine that stays where it begins."""
        return cls(order, order, {name: Chance.sure(name) for name in order})

    @classmethod
    def along(cls, beginnings, standings, names):
        """Return the machine that surely goes by a map, told by the standings of the beginnings."""
        if len(names) != len(beginnings):
            raise BadNumber(len(names))
        check_among(standings, names)
        return cls(beginnings, standings, {low: Chance.sure(goal) for low, goal in zip(beginnings, names)})

    @classmethod
    def read(cls, beginnings, standings, text):
        """Return the machine of a text, in which the beginnings come in any order."""
        parts = _read_parts(text)
        _check_words(beginnings, [word for word, _ in parts])
        return cls(beginnings, standings, {word: Chance.read(told) for word, told in parts})

    def row(self, name):
        """Return the chance of a beginning."""
        check_among(self.beginnings, [name])
        return self._rows[name]

    def rows(self):
        """Return the chances of all beginnings."""
        return dict(self._rows)

    def fault(self):
        """Return the first cover along which the machine does not rise, with what shows it, or None."""
        for low, high in self.beginnings.covers():
            names = barring(self.standings, self._rows[low], self._rows[high])
            if names is not None:
                return (low, high, names)
        return None

    def is_rising(self):
        """Tell if a higher beginning never has a lower chance."""
        return self.fault() is None

    def check(self):
        """Raise an error if the machine is not rising."""
        found = self.fault()
        if found is not None:
            low, high, names = found
            raise NotRising(low, high, names)

    def led(self, chance):
        """Return the chance of the standings if the beginning comes by a chance."""
        check_among(self.beginnings, chance)
        return Chance.shared([
            (goal, chance.share(name) * self._rows[name].share(goal)) for name in chance for goal in self._rows[name]
        ])

    def then(self, other):
        """Return the machine that goes by this one and then by the other one."""
        check_like(self.standings, other.beginnings)
        rows = {name: other.led(chance) for name, chance in self._rows.items()}
        return Machine(self.beginnings, other.standings, rows)

    def power(self, n):
        """Return the machine that goes n times by this one."""
        check_like(self.beginnings, self.standings)
        if n < 0:
            raise BadNumber(n)
        found = Machine.still(self.beginnings)
        # The steps double, as n may be large.
        step, rest = self, n
        while rest > 0:
            if rest % 2 == 1:
                found = found.then(step)
            rest = rest // 2
            if rest > 0:
                step = step.then(step)
        return found

    def mixed(self, other, share):
        """Return the machine that goes by the other one with a share, and else by this one."""
        check_like(self.beginnings, other.beginnings)
        check_like(self.standings, other.standings)
        rows = {name: chance.mixed(other.row(name), share) for name, chance in self._rows.items()}
        return Machine(self.beginnings, self.standings, rows)

    def part(self, names):
        """Return the machine with some of the beginnings."""
        beginnings = self.beginnings.part(names)
        return Machine(beginnings, self.standings, {name: self._rows[name] for name in beginnings})

    def turned(self):
        """Return the machine with the same chances and both orders the other way round."""
        return Machine(self.beginnings.turned(), self.standings.turned(), self._rows)

    def __eq__(self, other):
        if not isinstance(other, Machine):
            return False
        return self.beginnings == other.beginnings and self.standings == other.standings and self._rows == other._rows

    def __str__(self):
        return "; ".join([f"{name}: {chance}" for name, chance in self._rows.items()])
