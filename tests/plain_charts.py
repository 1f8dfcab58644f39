"""Charts once more, word by word from points [12] to [16], over bare tables, to hold the program against."""

import re


def some_table(chance, kinds, size, share):
    """A table in which about `share` of a hundred passages are known."""
    table = [[None] * kinds for chamber in range(size)]
    for place in range(kinds):
        ends = chance.sample(range(size), size)
        for chamber in range(size):
            if chance.randrange(100) < share:
                table[chamber][place] = ends[chamber]
    return table


def row_table(size):
    """One kind, the chambers one behind the other."""
    return [[chamber + 1] for chamber in range(size - 1)] + [[None]]


def ring_table(size):
    """One kind, the chambers in a ring."""
    return [[(chamber + 1) % size] for chamber in range(size)]


def known(table):
    """The known passages as tuples (chamber, kind, there)."""
    return [
        (chamber, place + 1, there)
        for chamber, ends in enumerate(table) for place, there in enumerate(ends) if there is not None
    ]


def plain_step(table, chamber, letter):
    """Look through all known passages for the one that the letter walks."""
    for a, kind, b in known(table):
        if letter > 0 and (a, kind) == (chamber, letter):
            return b
        if letter < 0 and (b, kind) == (chamber, -letter):
            return a
    return None


def plain_trace(table, chamber, way):
    """Take out neighbours that are opposite, then walk."""
    left = list(way)
    at = 0
    while at < len(left) - 1:
        if left[at] == -left[at + 1]:
            del left[at:at + 2]
            at = max(0, at - 1)
        else:
            at += 1
    for letter in left:
        chamber = plain_step(table, chamber, letter)
        if chamber is None:
            return None
    return chamber


def plain_order(table, base):
    """Point [13]: the chambers in the order of their new numbers."""
    order = [base]
    for chamber in order:
        for kind in range(1, len(table[0]) + 1):
            for letter in (kind, -kind):
                there = plain_step(table, chamber, letter)
                if there is not None and there not in order:
                    order.append(there)
    return order


def plain_numbered(table, base):
    order = plain_order(table, base)
    return [[None if there is None else order.index(there) for there in table[chamber]] for chamber in order]


def plain_core(table):
    """Point [14]: take out one hair after the other."""
    table = plain_numbered(table, 0)
    while True:
        ends = [end for a, kind, b in known(table) for end in (a, b)]
        hairs = [chamber for chamber in range(1, len(table)) if ends.count(chamber) == 1]
        if not hairs:
            return plain_numbered(table, 0)
        hair = hairs[-1]
        table[hair] = [None] * len(table[0])
        table = [[None if there == hair else there for there in row] for row in table]


def plain_chart_text(text):
    """Point [15]: True where a text writes a chart."""
    found = re.fullmatch(r"chart ([1-5]) ([1-9][0-9]{0,2})((?:\n[0-9-]+(?: [0-9-]+)*)+)", text)
    if not found:
        return False
    kinds, size = int(found[1]), int(found[2])
    rows = [row.split(" ") for row in found[3][1:].split("\n")]
    words = [str(chamber) for chamber in range(size)] + ["-"]
    if size > 700 or len(rows) != size or any(len(row) != kinds for row in rows):
        return False
    if any(word not in words for row in rows for word in row):
        return False
    columns = [[row[place] for row in rows if row[place] != "-"] for place in range(kinds)]
    return all(len(set(column)) == len(column) for column in columns)


def plain_home_count(table):
    """Point [16]: how many home rows there are."""
    met = plain_order(table, 0)
    return len([1 for a, kind, b in known(table) if a in met]) - len(met) + 1
