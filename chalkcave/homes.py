"""Home rows: ways that are home in a chart, and over which every way that is home is spelled."""

from chalkcave.errors import NoHome
from chalkcave.numbering import ways_from
from chalkcave.ways import cancelled, turned


def homes(chart):
    """The home rows of a chart."""
    ways = ways_from(chart, 0)
    return [home_row(ways, passage) for passage in loose_passages(chart, ways)]


def spelled(chart, way):
    """The one cancelled word over the home rows that gives the way; NoKind, then NoHome."""
    if chart.trace(0, way) != 0:
        raise NoHome("the way isn't home")
    numbers = numbers_of(loose_passages(chart, ways_from(chart, 0)))
    word = []
    here = 0
    # The word comes out cancelled: between a loose passage and the same one back, the way would turn about in a tree.
    for letter in cancelled(way):
        there = chart.step(here, letter)
        if letter > 0 and (here, letter) in numbers:
            word.append(numbers[(here, letter)])
        elif letter < 0 and (there, -letter) in numbers:
            word.append(-numbers[(there, -letter)])
        here = there
    return word


def unspelled(chart, word):
    """The cancelled way that a word over the home rows gives; NoHome."""
    ways = ways_from(chart, 0)
    passages = loose_passages(chart, ways)
    for number in word:
        if number == 0 or abs(number) > len(passages):
            raise NoHome("no such home row")
    letters = []
    # The word is cancelled ahead, so that a long one that cancels makes no long list.
    for number in cancelled(word):
        row = home_row(ways, passages[abs(number) - 1])
        letters.extend(row if number > 0 else turned(row))
    return cancelled(letters)


def loose_passages(chart, ways):
    """The known passages (chamber, kind, there) among the chambers that are met, without those that the ways use.

    The ways from chamber 0 make a tree, so each of these passages closes one ring of its own.
    """
    table = chart.table()
    found = []
    for chamber in ways:
        for place, there in enumerate(table[chamber]):
            if there is not None and not is_used(ways, chamber, place + 1, there):
                found.append((chamber, place + 1, there))
    return found


def is_used(ways, chamber, kind, there):
    """True where the passage is the last one of the way to one of its ends."""
    return ways[there] == ways[chamber] + [kind] or ways[chamber] == ways[there] + [-kind]


def home_row(ways, passage):
    """The way to where a loose passage begins, along it, and from its end back to chamber 0; it is cancelled."""
    chamber, kind, there = passage
    return ways[chamber] + [kind] + turned(ways[there])


def numbers_of(passages):
    """For each loose passage, told by its chamber and kind, the number of its home row."""
    return {(chamber, kind): place + 1 for place, (chamber, kind, there) in enumerate(passages)}
