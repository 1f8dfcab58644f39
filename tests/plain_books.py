"""Caves and books once more, word by word from points [17] to [27], over bare lists, to hold the program against."""

import copy

from chalkcave.errors import CaveError


def settled(marks, rows, pairs):
    """Point [9]: join marks until nothing moves; for each mark the least one that it is joined with."""
    labels = list(range(marks))
    for a, b in pairs:
        labels = joined_labels(labels, a, b)
    moved = True
    while moved:
        moved = False
        ends = {}
        for number, a, kind, b in rows:
            for near, far, side in ((a, b, 1), (b, a, -1)):
                other = ends.setdefault((labels[near], kind, side), far)
                if labels[other] != labels[far]:
                    labels = joined_labels(labels, other, far)
                    moved = True
    return labels


def joined_labels(labels, a, b):
    low, high = sorted((labels[a], labels[b]))
    return [low if label == high else label for label in labels]


def behind_paper(marks, rows, pairs, paper):
    """Point [10]: the labels behind the last step; None where a step falls or joins what is joined already."""
    labels = list(range(marks))
    for a, b in pairs:
        labels = joined_labels(labels, a, b)
    by_number = {row[0]: row for row in rows}
    for i, j, side in paper:
        if i not in by_number or j not in by_number or side not in (1, -1):
            return None
        one, two = by_number[i], by_number[j]
        near, far = (1, 3) if side == 1 else (3, 1)
        if one[2] != two[2] or labels[one[near]] != labels[two[near]] or labels[one[far]] == labels[two[far]]:
            return None
        labels = joined_labels(labels, one[far], two[far])
    return labels


def plain_trail(first, a, way):
    """Point [11]: the rows of a trail and its last mark."""
    marks = [a] + list(range(first, first + len(way)))
    rows = []
    for at, letter in enumerate(way):
        ends = (marks[at], marks[at + 1]) if letter > 0 else (marks[at + 1], marks[at])
        rows.append((-1 - at, ends[0], abs(letter), ends[1]))
    return rows, marks[-1]


def walked(tables, chamber, way):
    """Walk a way in a cave, letter by letter, as it stands."""
    for letter in way:
        table = tables[abs(letter) - 1]
        chamber = table[chamber] if letter > 0 else table.index(chamber)
    return chamber


def fitting(book, kinds, tables, places):
    """Point [20]: whether a cave fits a plain book."""
    if kinds != book.kinds or len(places) != book.marks:
        return False
    for entry in book.entries:
        if entry[1] == "row" and tables[entry[3] - 1][places[entry[2]]] != places[entry[4]]:
            return False
        if entry[1] == "apart" and places[entry[2]] == places[entry[3]]:
            return False
    return True


def plain_met(one, two):
    """Point [27]: the table of the meeting of two tables, by a walk over pairs."""
    ones, twos = steps_of(one), steps_of(two)
    kinds = len(one[0])
    order = [(0, 0)]
    numbers = {(0, 0): 0}
    for a, b in order:
        for kind in range(1, kinds + 1):
            for letter in (kind, -kind):
                pair = (ones.get((a, letter)), twos.get((b, letter)))
                if None not in pair and pair not in numbers:
                    numbers[pair] = len(order)
                    order.append(pair)
    return [
        [numbers.get((ones.get((a, kind)), twos.get((b, kind)))) for kind in range(1, kinds + 1)]
        for a, b in order
    ]


def steps_of(table):
    """For each chamber and letter the chamber to which it leads, where that is known."""
    steps = {}
    for chamber, ends in enumerate(table):
        for place, there in enumerate(ends):
            if there is not None:
                steps[(chamber, place + 1)] = there
                steps[(there, -place - 1)] = chamber
    return steps


class PlainBook:
    """Points [19] to [26]. A call that is refused tells the name of its refusal and changes nothing."""

    def __init__(self, kinds):
        self.kinds = kinds
        self.marks = 0
        self.entries = []
        self.coming = 1
        self.holds = []

    def chalk(self):
        if self.marks == 24:
            return "Full"
        self.marks += 1
        return self.marks - 1

    def no_mark(self, *marks):
        return any(mark not in range(self.marks) for mark in marks)

    def rows(self):
        return [(entry[0],) + entry[2:] for entry in self.entries if entry[1] == "row"]

    def oaths(self):
        return [(entry[0],) + entry[2:] for entry in self.entries if entry[1] == "apart"]

    def labels(self, more=(), pairs=(), marks=0):
        return settled(self.marks + marks, self.rows() + list(more), pairs)

    def broken(self, labels):
        """The numbers of the oaths of which both marks have one label."""
        return [number for number, a, b in self.oaths() if labels[a] == labels[b]]

    def enter(self, *told):
        self.entries.append((self.coming,) + told)
        self.coming += 1
        return self.coming - 1

    def row(self, a, kind, b):
        if self.no_mark(a, b):
            return "NoMark"
        if kind not in range(1, self.kinds + 1):
            return "NoKind"
        if len(self.entries) == 40:
            return "Full"
        if self.broken(self.labels([(self.coming, a, kind, b)])):
            return "Barred"
        return self.enter("row", a, kind, b)

    def apart(self, a, b):
        if self.no_mark(a, b):
            return "NoMark"
        if len(self.entries) == 40:
            return "Full"
        labels = self.labels()
        if labels[a] == labels[b]:
            return "Barred"
        return self.enter("apart", a, b)

    def strike(self, number):
        found = [entry for entry in self.entries if entry[0] == number]
        if not found:
            return "NoEntry"
        self.entries.remove(found[0])
        return number

    def hold(self):
        self.holds.append((self.marks, list(self.entries), self.coming))
        return len(self.holds)

    def back(self, number):
        if number not in range(1, len(self.holds) + 1):
            return "NoHold"
        del self.holds[number:]
        self.marks, entries, self.coming = self.holds[-1]
        self.entries = list(entries)
        return number

    def twin(self):
        return copy.deepcopy(self)

    def chambers(self):
        labels = self.labels()
        leasts = sorted(set(labels))
        return [leasts.index(label) for label in labels]

    def table(self):
        """The chart of the book's chambers as a table."""
        chambers = self.chambers()
        table = [[None] * self.kinds for chamber in range(len(set(chambers)))]
        for number, a, kind, b in self.rows():
            assert table[chambers[a]][kind - 1] in (None, chambers[b])
            table[chambers[a]][kind - 1] = chambers[b]
        return table

    def is_must(self, a, way, b):
        rows, end = plain_trail(self.marks, a, way)
        labels = self.labels(rows, [], len(way))
        return labels[end] == labels[b]

    def never_oaths(self, a, way, b):
        """The numbers of the oaths that would be broken."""
        rows, end = plain_trail(self.marks, a, way)
        return self.broken(self.labels(rows, [(end, b)], len(way)))

    def judge(self, a, way, b):
        if self.no_mark(a, b):
            return "NoMark"
        if any(abs(letter) not in range(1, self.kinds + 1) for letter in way):
            return "NoKind"
        if self.is_must(a, way, b):
            return "must"
        return "never" if self.never_oaths(a, way, b) else "open"


def tried(call, *arguments):
    """What a call of the program tells, or the class name of its refusal."""
    try:
        return call(*arguments)
    except CaveError as refusal:
        return type(refusal).__name__


def standing(book):
    """The marks, entries and next number of a book of the program, found by a twin of which all is struck."""
    probe = book.twin()
    for entry in book.entries():
        probe.strike(entry[0])
    if book.marks() == 0:
        probe.chalk()
    return book.marks(), book.entries(), probe.row(0, 1, 0)


def whole(book):
    """All of a book of the program: how it stands, and how it stood at each hold, the last one first."""
    probe = book.twin()
    told = [standing(probe)]
    for number in range(book.twin().hold() - 1, 0, -1):
        probe.back(number)
        told.append(standing(probe))
    return told


def plain_whole(book):
    """The same of a plain book."""
    return [(book.marks, book.entries, book.coming)] + book.holds[::-1]


def some_books(chance, survey, kinds, marks, rows, oaths):
    """A book of the program and a plain one, with the same marks and entries; what is barred is left out."""
    plain = PlainBook(kinds)
    for turn in range(marks):
        survey.chalk()
        plain.chalk()
    deeds = ["row"] * rows + ["apart"] * oaths
    chance.shuffle(deeds)
    for deed in deeds:
        a, b = chance.randrange(marks), chance.randrange(marks)
        if deed == "row":
            kind = chance.randint(1, kinds)
            told, wanted = tried(survey.row, a, kind, b), plain.row(a, kind, b)
        else:
            told, wanted = tried(survey.apart, a, b), plain.apart(a, b)
        assert told == wanted, (told, wanted)
    return survey, plain


def way_along(chance, plain, a, length):
    """Letters along known passages from mark a, as far as there are some, and the chamber in which they end."""
    here = plain.chambers()[a]
    steps = steps_of(plain.table())
    way = []
    for turn in range(length):
        letters = sorted(letter for chamber, letter in steps if chamber == here)
        if not letters:
            break
        way.append(chance.choice(letters))
        here = steps[(here, way[-1])]
    return way, here
