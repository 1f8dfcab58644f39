"""Folding: marks are joined into chambers by the rows that are told of them."""

from chalkcave.groups import Groups, far_mark, near_mark


class Fold:
    """A folding under way."""

    def __init__(self, marks, start):
        self.groups = Groups(marks, start)
        # For the least mark of each group: one row for each (kind, side) that lies at the group.
        self.doors = [{} for mark in range(marks)]
        self.waiting = []
        self.steps = []

    def lay(self, row):
        """Put a row to the groups at its two ends."""
        for side in (1, -1):
            least = self.groups.least[near_mark(row, side)]
            self.put(self.doors[least], (row[2], side), row)

    def put(self, doors, door, row):
        """Put a row to the doors of a group; two rows at one door wait for the joining of their far marks."""
        if door in doors:
            self.waiting.append((doors[door], row, door[1]))
        else:
            doors[door] = row

    def settle(self):
        """Join what waits, and all that this brings about."""
        while self.waiting:
            one, two, side = self.waiting.pop()
            a = far_mark(one, side)
            b = far_mark(two, side)
            if not self.groups.together(a, b):
                self.steps.append((one[0], two[0], side))
                self.merge(a, b)

    def merge(self, a, b):
        """Join the groups of two marks and their doors."""
        low = min(self.groups.least[a], self.groups.least[b])
        high = max(self.groups.least[a], self.groups.least[b])
        self.groups.unite(low, high)
        kept = self.doors[low]
        gone = self.doors[high]
        for door in list(gone):
            self.put(kept, door, gone[door])


def folded(marks, rows, start):
    """The pair (labels, paper): the least mark of the chamber of each mark, and the steps that join them."""
    fold = Fold(marks, start)
    for row in rows:
        fold.lay(row)
    fold.settle()
    return list(fold.groups.least), list(fold.steps)


def trail(first, a, way):
    """The pair (rows, end): the rows that lay a way from mark a over new marks, and its last mark."""
    rows = []
    end = a
    for at, letter in enumerate(way):
        new = first + at
        if letter > 0:
            rows.append((-1 - at, end, letter, new))
        else:
            rows.append((-1 - at, new, -letter, end))
        end = new
    return rows, end
