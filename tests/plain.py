"""Folding and papers once more, word by word from points [9] and [10], to hold the program against."""


def chambers_from(marks, pairs):
    """A list of lists: the marks that the pairs join, through others too."""
    found = []
    left = list(range(marks))
    while left:
        chamber = [left.pop(0)]
        for mark in chamber:
            for a, b in pairs:
                for one, two in ((a, b), (b, a)):
                    if one == mark and two not in chamber:
                        chamber.append(two)
        left = [mark for mark in left if mark not in chamber]
        found.append(sorted(chamber))
    return found


def least_marks(marks, pairs):
    """For each mark the least one that it is joined with."""
    labels = [0] * marks
    for chamber in chambers_from(marks, pairs):
        for mark in chamber:
            labels[mark] = chamber[0]
    return labels


def plain_labels(marks, rows, start):
    """Point [9]: join as long as there are two rows that join something."""
    pairs = list(start)
    while True:
        labels = least_marks(marks, pairs)
        more = []
        for number, a, kind, b in rows:
            for other, c, other_kind, d in rows:
                if kind == other_kind and labels[a] == labels[c] and labels[b] != labels[d]:
                    more.append((b, d))
                if kind == other_kind and labels[b] == labels[d] and labels[a] != labels[c]:
                    more.append((a, c))
        if not more:
            return labels
        pairs.append(more[0])


def plain_steps(marks, rows, start, paper):
    """Point [10]: the labels behind the last step and how many steps joined nothing; None where a step falls."""
    pairs = list(start)
    idle = 0
    for i, j, side in paper:
        ones = [row for row in rows if row[0] == i]
        twos = [row for row in rows if row[0] == j]
        if not ones or not twos or side not in (1, -1):
            return None
        first, second = ones[0], twos[0]
        if first[2] != second[2]:
            return None
        labels = least_marks(marks, pairs)
        near, far = ((1, 3) if side == 1 else (3, 1))
        if labels[first[near]] != labels[second[near]]:
            return None
        if labels[first[far]] == labels[second[far]]:
            idle += 1
        pairs.append((first[far], second[far]))
    return least_marks(marks, pairs), idle


def some_rows(chance, marks, many, kinds):
    """Rows over the marks, numbered by differing numbers in no order."""
    numbers = chance.sample(range(-3 * many - 3, 3 * many + 3), many)
    return [
        (number, chance.randrange(marks), chance.randint(1, kinds), chance.randrange(marks))
        for number in numbers
    ]


def some_pairs(chance, marks, many):
    return [(chance.randrange(marks), chance.randrange(marks)) for turn in range(many)]
