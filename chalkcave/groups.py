"""What folding and papers share: marks joined into groups, and the two ends of a row."""


class Groups:
    """Marks in groups; `least` has for each mark the least mark of its group."""

    def __init__(self, marks, pairs):
        self.least = list(range(marks))
        for a, b in pairs:
            self.unite(a, b)

    def together(self, a, b):
        """True where the two marks are joined."""
        return self.least[a] == self.least[b]

    def unite(self, a, b):
        """Join the groups of two marks."""
        low = min(self.least[a], self.least[b])
        high = max(self.least[a], self.least[b])
        self.least = [low if mark == high else mark for mark in self.least]


def near_mark(row, side):
    """The mark of a row at which a step of that side wants two rows joined already."""
    if side == 1:
        return row[1]
    return row[3]


def far_mark(row, side):
    """The mark of a row that a step of that side joins."""
    return near_mark(row, -side)
