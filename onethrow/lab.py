"""A lab that gets to know a machine row by row."""

from onethrow.errors import NothingToUndo, UnknownName
from onethrow.machines import Machine
from onethrow.ratios import Ratio, greatest
from onethrow.throws import rising_share, throw
from onethrow.words import check_among


class Lab:
    """What is told of a machine, with all that was told before."""

    def __init__(self, beginnings, standings):
        self._beginnings = beginnings
        self._standings = standings
        self._rows = {}
        # For each deed that has not been taken back, the rows ahead of it.
        self._past = []

    def tell(self, name, chance):
        """Tell the chance of a beginning, in the place of an older one."""
        self._put(self._with(name, chance))

    def forget(self, name):
        """Take the chance of a beginning out again."""
        if name not in self._rows:
            raise UnknownName(name)
        self._put({other: chance for other, chance in self._rows.items() if other != name})

    def undo(self):
        """Take back the last deed."""
        if not self._past:
            raise NothingToUndo()
        self._rows = self._past.pop()

    def __len__(self):
        return len(self._past)

    def _put(self, rows):
        """Do a deed."""
        self._past.append(self._rows)
        self._rows = rows

    def _with(self, name, chance):
        """Return the rows with the chance of a beginning, which may be told."""
        check_among(self._beginnings, [name])
        check_among(self._standings, chance)
        return {**self._rows, name: chance}

    def _machine_of(self, rows):
        """Return the machine of some rows, or None without rows."""
        if not rows:
            return None
        return Machine(self._beginnings.part(sorted(rows)), self._standings, rows)

    def told(self):
        """Return the chances that are told."""
        return {name: self._rows[name] for name in sorted(self._rows)}

    def untold(self):
        """Return the beginnings whose chances are not told."""
        return [name for name in self._beginnings if name not in self._rows]

    def machine(self):
        """Return the machine of the beginnings whose chances are told, or None."""
        return self._machine_of(self._rows)

    def fault(self):
        """Return the fault of the machine, or None."""
        found = self.machine()
        return None if found is None else found.fault()

    def share(self):
        """Return the rising share of the machine."""
        found = self.machine()
        return Ratio.whole(1) if found is None else rising_share(found)

    def throw(self):
        """Return a throw of the machine."""
        found = self.machine()
        return [((), Ratio.whole(1))] if found is None else throw(found)

    def fits(self, name, chance):
        """Tell if the machine is rising when the chance of a beginning is told."""
        return self._machine_of(self._with(name, chance)).is_rising()

    def bounds(self, name, wish):
        """Return between which shares some standings, and all above them, come from a beginning."""
        check_among(self._beginnings, [name])
        check_among(self._standings, wish)
        wished = [goal for goal in self._standings if any([self._standings.below(low, goal) for low in wish])]
        masses = {other: chance.mass(wished) for other, chance in self._rows.items()}
        under = [masses[other] for other in masses if self._beginnings.below(other, name)]
        over = [-masses[other] for other in masses if self._beginnings.below(name, other)]
        return (greatest([Ratio.whole(0), *under]), -greatest([Ratio.whole(-1), *over]))
