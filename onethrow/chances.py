"""Chances: shares of names that add up to 1."""

from math import gcd

from onethrow.errors import BadName, BadNumber, BadShares, BadText, UnknownName
from onethrow.ratios import Ratio, scaled, total
from onethrow.words import check_names, decimal, is_name, wrong_word


def _least(weights):
    """Return the positive ones of some weights, made as small as their proportion allows."""
    divisor = 0
    for name in weights:
        divisor = gcd(divisor, weights[name])
    return {name: weights[name] // divisor for name in sorted(weights) if weights[name] > 0}


def in_proportion(rows):
    """Return for each thing of some rows an integer, all in the proportion of the sums of their shares."""
    amounts, _ = scaled([share for _, share in rows])
    weights = {}
    for (name, _), amount in zip(rows, amounts):
        weights[name] = weights.get(name, 0) + amount
    return weights


class Chance:
    """Shares of names, kept as the least integers in the same proportion."""

    def __init__(self, weights):
        for name in sorted(weights):
            if not is_name(name):
                raise BadName(name)
            if weights[name] < 0:
                raise BadNumber(weights[name])
        if sum(weights.values()) == 0:
            raise BadShares(Ratio.whole(0))
        self._weights = _least(weights)
        self._sum = sum(self._weights.values())

    @classmethod
    def sure(cls, name):
        """Return the chance in which one name has the share 1."""
        return cls({name: 1})

    @classmethod
    def shared(cls, rows):
        """Return the chance with the told shares, in which names may come repeatedly."""
        for name, share in rows:
            if not is_name(name):
                raise BadName(name)
            if share.top < 0:
                raise BadNumber(share)
        found = total([share for _, share in rows])
        if found != Ratio.whole(1):
            raise BadShares(found)
        return cls(in_proportion(rows))

    @classmethod
    def read(cls, text):
        """Return the chance of a text of names and weights."""
        words = text.split(" ")
        at = wrong_word(words)
        if at is not None:
            raise BadText(at)
        check_names(words[::2])
        return cls({name: int(word) for name, word in zip(words[::2], words[1::2])})

    def share(self, name):
        """Return the share of a string, 0 if it is none of the names."""
        return Ratio(self._weights.get(name, 0), self._sum)

    def mass(self, names):
        """Return the sum of the shares of some names, each counted once."""
        return Ratio(sum([self._weights.get(name, 0) for name in sorted(set(names))]), self._sum)

    def weights(self):
        """Return the least positive integers in the proportion of the shares."""
        return dict(self._weights)

    def average(self, values):
        """Return the sum of the shares times the values."""
        self._check_keys(values)
        return total([self.share(name) * values[name] for name in self._weights])

    def sent(self, names):
        """Return the chance in which each share has gone where its name is sent."""
        self._check_keys(names)
        for name in self._weights:
            if not is_name(names[name]):
                raise BadName(names[name])
        weights = {}
        for name in self._weights:
            weights[names[name]] = weights.get(names[name], 0) + self._weights[name]
        return Chance(weights)

    def mixed(self, other, share):
        """Return the chance that is like the other one with a share, and else like this one."""
        rest = Ratio.whole(1) - share
        if share.top < 0 or rest.top < 0:
            raise BadNumber(share)
        kept = [(name, rest * self.share(name)) for name in self]
        come = [(name, share * other.share(name)) for name in other]
        return Chance.shared(kept + come)

    def _check_keys(self, table):
        """Raise the error of the first name that is no key of a dictionary."""
        for name in self._weights:
            if name not in table:
                raise UnknownName(name)

    def __len__(self):
        return len(self._weights)

    def __contains__(self, name):
        return name in self._weights

    def __iter__(self):
        return iter(self._weights)

    def __eq__(self, other):
        return isinstance(other, Chance) and self._weights == other._weights

    def __str__(self):
        return " ".join([f"{name} {decimal(weight)}" for name, weight in self._weights.items()])
