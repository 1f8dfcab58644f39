"""Caves: chambers of which every passage is known, and the chambers in which marks lie."""

from chalkcave.chart import Chart, MOST_CHAMBERS, MOST_KINDS
from chalkcave.errors import NoCave, NoMark


class Cave:
    """For each kind, for each chamber, the chamber to which the passage leads, and the places of the marks."""

    def __init__(self, kinds, tables, places):
        check_tables(kinds, tables)
        size = len(tables[0])
        check_places(size, places)
        self.kinds = kinds
        self.placed = list(places)
        # A cave is walked as the full chart of its passages.
        self.chart = Chart(kinds, [[table[chamber] for table in tables] for chamber in range(size)])

    def size(self):
        """How many chambers there are."""
        return self.chart.size()

    def tables(self):
        """For each kind, for each chamber, the chamber to which the passage leads."""
        return columns(self.chart)

    def places(self):
        """The chambers in which marks 0, 1, .. lie."""
        return list(self.placed)

    def walk(self, chamber, way):
        """The chamber in which the way ends; NoChamber, then NoKind."""
        return self.chart.trace(chamber, way)

    def stands(self, mark):
        """The chamber of a mark; NoMark where it isn't placed."""
        if mark < 0 or mark >= len(self.placed):
            raise NoMark("a mark that isn't placed")
        return self.placed[mark]


def closed(chart, places):
    """A cave of as many chambers that keeps all known passages of a chart."""
    return Cave(chart.kinds, [filled(ends) for ends in columns(chart)], places)


def columns(chart):
    """The table of a chart turned: for each kind, for each chamber, where its passage leads to."""
    table = chart.table()
    return [[ends[place] for ends in table] for place in range(chart.kinds)]


def filled(ends):
    """The ends of the passages of one kind; for each None a chamber is put in to which none leads yet."""
    reached = {there: True for there in ends}
    free = [chamber for chamber in range(len(ends)) if chamber not in reached]
    # No two known passages have one end, so there are just as many free chambers as unknown passages.
    return [free.pop() if there is None else there for there in ends]


def check_tables(kinds, tables):
    """NoCave where kinds or tables tell no cave."""
    if kinds < 1 or kinds > MOST_KINDS:
        raise NoCave("kinds are 1 to 5")
    if len(tables) != kinds:
        raise NoCave("there is just one table for each kind")
    size = len(tables[0])
    if size < 1 or size > MOST_CHAMBERS:
        raise NoCave("chambers are 1 to 700")
    for table in tables:
        # Tables of unlike lengths fall here too.
        if sorted(table) != list(range(size)):
            raise NoCave("a table has each chamber just once")


def check_places(size, places):
    """NoCave where a place is no chamber."""
    for place in places:
        if place < 0 or place >= size:
            raise NoCave("a place is no chamber")
