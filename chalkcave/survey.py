"""The book: chalk marks, the entries that are told of them, and what holds in every cave that fits."""

from chalkcave.caves import closed
from chalkcave.chart import Chart, MOST_KINDS, check_letters
from chalkcave.errors import Barred, Full, NoEntry, NoHold, NoKind, NoMark
from chalkcave.folding import folded, trail
from chalkcave.numbering import numbered

MOST_MARKS = 24
MOST_ENTRIES = 40
ROW = "row"
APART = "apart"
MUST = "must"
NEVER = "never"
OPEN = "open"


class Survey:
    """A book of marks, rows and oaths, with its holds."""

    def __init__(self, kinds):
        if kinds < 1 or kinds > MOST_KINDS:
            raise NoKind("kinds are 1 to 5")
        self.kinds = kinds
        self.many = 0
        # The list of entries is never changed in place, for holds and twins keep the same one.
        self.standing = []
        self.coming = 1
        self.held = []

    def chalk(self):
        """The new mark; Full."""
        if self.many >= MOST_MARKS:
            raise Full("there are 24 marks")
        self.many += 1
        return self.many - 1

    def row(self, a, kind, b):
        """Enter a passage of a kind from mark a to mark b; its number. NoMark, NoKind, Full, Barred."""
        self.check_marks(a, b)
        if kind < 1 or kind > self.kinds:
            raise NoKind("no such kind")
        self.check_room()
        labels, paper = folded(self.many, rows_of(self.standing) + [(self.coming, a, kind, b)], [])
        if broken_oath(self.standing, labels) is not None:
            raise Barred("the row joins the marks of an oath")
        return self.enter((ROW, a, kind, b))

    def apart(self, a, b):
        """Enter an oath that two marks are not in one chamber; its number. NoMark, Full, Barred."""
        self.check_marks(a, b)
        self.check_room()
        if self.same(a, b):
            raise Barred("the two marks are in one chamber")
        return self.enter((APART, a, b))

    def strike(self, number):
        """Strike the standing entry of that number; the number. NoEntry."""
        left = [entry for entry in self.standing if entry[0] != number]
        if len(left) == len(self.standing):
            raise NoEntry("no standing entry has the number")
        self.standing = left
        return number

    def marks(self):
        """How many marks there are."""
        return self.many

    def entries(self):
        """The standing entries by their numbers."""
        return list(self.standing)

    def hold(self):
        """Keep the book as it stands; the hold's number."""
        self.held.append((self.many, self.standing, self.coming))
        return len(self.held)

    def back(self, number):
        """Make the book as it was at a hold; the hold's number. NoHold."""
        if number < 1 or number > len(self.held):
            raise NoHold("no hold has the number")
        self.held = self.held[:number]
        self.many, self.standing, self.coming = self.held[number - 1]
        return number

    def twin(self):
        """A book of its own that stands as this one does."""
        other = Survey(self.kinds)
        other.many = self.many
        other.standing = self.standing
        other.coming = self.coming
        other.held = list(self.held)
        return other

    def chambers(self):
        """The chamber of each mark."""
        return chambers_of(self.labels())

    def same(self, a, b):
        """True where two marks are in one chamber; NoMark."""
        return self.paper(a, b) is not None

    def paper(self, a, b):
        """A paper over the standing rows for two marks, or None where they are not in one chamber; NoMark."""
        return self.must_paper(a, [], b)

    def piece(self, a):
        """The chart of the chambers, numbered from that of mark a; NoMark."""
        self.check_marks(a, a)
        chambers = self.chambers()
        return numbered(chart_of(self.kinds, chambers, rows_of(self.standing)), chambers[a])

    def freest(self):
        """A cave that fits, in which marks of different chambers lie in different ones."""
        return self.cave_of(self.labels(), rows_of(self.standing))

    def fits(self, cave):
        """True where the cave fits the book."""
        places = cave.places()
        if cave.kinds != self.kinds or len(places) != self.many:
            return False
        for number, a, kind, b in rows_of(self.standing):
            if cave.walk(places[a], [kind]) != places[b]:
                return False
        return broken_oath(self.standing, places) is None

    def judge(self, a, way, b):
        """Whether the way leads from a to b in every cave that fits, in none, or in some; NoMark, then NoKind."""
        if self.must_paper(a, way, b) is not None:
            return MUST
        if self.never_paper(a, way, b) is not None:
            return NEVER
        return OPEN

    def must_paper(self, a, way, b):
        """A paper for the trail's last mark and b, or None where it isn't must; NoMark, then NoKind."""
        rows, end = self.laid(a, way, b)
        labels, paper = folded(self.many + len(way), rows, [])
        if labels[end] != labels[b]:
            return None
        return paper

    def never_paper(self, a, way, b):
        """The pair (number, paper) of an oath that would be broken, or None; NoMark, then NoKind."""
        rows, end = self.laid(a, way, b)
        labels, paper = folded(self.many + len(way), rows, [(end, b)])
        number = broken_oath(self.standing, labels)
        if number is None:
            return None
        return number, paper

    def astray(self, a, way, b):
        """A cave that fits in which the way doesn't lead from a to b, or None; NoMark, then NoKind."""
        rows, end = self.laid(a, way, b)
        labels, paper = folded(self.many + len(way), rows, [])
        if labels[end] == labels[b]:
            return None
        return self.cave_of(labels, rows)

    def leading(self, a, way, b):
        """A cave that fits in which the way leads from a to b, or None; NoMark, then NoKind."""
        rows, end = self.laid(a, way, b)
        labels, paper = folded(self.many + len(way), rows, [(end, b)])
        if broken_oath(self.standing, labels) is not None:
            return None
        return self.cave_of(labels, rows)

    def enter(self, told):
        """Put an entry into the book under the next number; the number."""
        number = self.coming
        self.standing = self.standing + [(number,) + told]
        self.coming += 1
        return number

    def labels(self):
        """For each mark the least one of its chamber."""
        return folded(self.many, rows_of(self.standing), [])[0]

    def laid(self, a, way, b):
        """The pair (rows, end): the standing rows with the trail's ones, and its last mark; NoMark, then NoKind."""
        self.check_marks(a, b)
        check_letters(self.kinds, way)
        rows, end = trail(self.many, a, way)
        return rows_of(self.standing) + rows, end

    def cave_of(self, labels, rows):
        """The cave to which folded rows are closed, with the book's marks in it."""
        chambers = chambers_of(labels)
        return closed(chart_of(self.kinds, chambers, rows), chambers[:self.many])

    def check_marks(self, a, b):
        """NoMark where one of two marks isn't in the book."""
        for mark in (a, b):
            if mark < 0 or mark >= self.many:
                raise NoMark("no such mark")

    def check_room(self):
        """Full where no entry more may stand."""
        if len(self.standing) >= MOST_ENTRIES:
            raise Full("40 entries stand")


def rows_of(entries):
    """The rows among entries, as folding takes them."""
    return [(entry[0], entry[2], entry[3], entry[4]) for entry in entries if entry[1] == ROW]


def broken_oath(entries, labels):
    """The number of an oath of which both marks have one label, or None where there is none."""
    for entry in entries:
        if entry[1] == APART and labels[entry[2]] == labels[entry[3]]:
            return entry[0]
    return None


def chambers_of(labels):
    """For each mark its chamber, counted from 0 by their least marks."""
    # A label is itself the least mark that has it, so labels are met for the first time in their order.
    numbers = {}
    for label in labels:
        if label not in numbers:
            numbers[label] = len(numbers)
    return [numbers[label] for label in labels]


def chart_of(kinds, chambers, rows):
    """The chart of folded rows."""
    # Where there is no mark there is no chamber, but a chart has one.
    size = max([0] + chambers) + 1
    table = [[None] * kinds for chamber in range(size)]
    for number, a, kind, b in rows:
        table[chambers[a]][kind - 1] = chambers[b]
    return Chart(kinds, table)
