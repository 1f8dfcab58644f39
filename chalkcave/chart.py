"""Charts: chambers, and the passages between them as far as they are known."""

from chalkcave.errors import NoChamber, NoChart, NoKind
from chalkcave.ways import cancelled

MOST_KINDS = 5
MOST_CHAMBERS = 700


class Chart:
    """For each chamber and kind the chamber to which the passage leads, or None where that is not known."""

    def __init__(self, kinds, table):
        check_shape(kinds, table)
        self.kinds = kinds
        # For each kind, for each chamber: where the passage out of it leads to, and where the one into it comes from.
        self.onward = [[row[place] for row in table] for place in range(kinds)]
        self.inward = [beginnings(ends) for ends in self.onward]

    def size(self):
        """How many chambers there are."""
        return len(self.onward[0])

    def passages(self):
        """How many passages are known."""
        return sum([self.size() - ends.count(None) for ends in self.onward])

    def full(self):
        """True where no passage is unknown."""
        return self.passages() == self.kinds * self.size()

    def table(self):
        """For each chamber a list with, for each kind, a chamber or None."""
        return [[ends[chamber] for ends in self.onward] for chamber in range(self.size())]

    def step(self, chamber, letter):
        """The chamber to which the letter leads, or None; NoChamber, then NoKind."""
        self.check_chamber(chamber)
        check_letters(self.kinds, [letter])
        if letter > 0:
            return self.onward[letter - 1][chamber]
        return self.inward[-letter - 1][chamber]

    def trace(self, chamber, way):
        """The chamber in which the way ends, or None; NoChamber, then NoKind."""
        self.check_chamber(chamber)
        check_letters(self.kinds, way)
        here = chamber
        for letter in cancelled(way):
            here = self.step(here, letter)
            if here is None:
                return None
        return here

    def check_chamber(self, chamber):
        """NoChamber where there is no such chamber."""
        if chamber < 0 or chamber >= self.size():
            raise NoChamber("no such chamber")


def check_letters(kinds, way):
    """NoKind where a letter of the way, as it stands, is nought or beyond the kinds."""
    for letter in way:
        if letter == 0 or abs(letter) > kinds:
            raise NoKind("a letter of no kind")


def check_shape(kinds, table):
    """NoChart where there are too few or too many kinds, chambers or things for a chamber."""
    if kinds < 1 or kinds > MOST_KINDS:
        raise NoChart("kinds are 1 to 5")
    if len(table) < 1 or len(table) > MOST_CHAMBERS:
        raise NoChart("chambers are 1 to 700")
    for row in table:
        if len(row) != kinds:
            raise NoChart("a chamber has just one thing for each kind")


def beginnings(ends):
    """For each chamber the one from which the passage of a kind leads into it, or None; NoChart."""
    found = [None] * len(ends)
    for chamber, there in enumerate(ends):
        if there is None:
            continue
        if there < 0 or there >= len(ends):
            raise NoChart("a passage leads to no chamber")
        if found[there] is not None:
            raise NoChart("two passages of one kind lead to one chamber")
        found[there] = chamber
    return found
