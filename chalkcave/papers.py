"""Papers: lists of steps that show why two marks are joined."""

from chalkcave.groups import Groups, far_mark, near_mark


def joins(marks, rows, start, paper, a, b):
    """True where each step of the paper stands when its turn comes and a and b are joined behind the last one."""
    groups = Groups(marks, start)
    numbered_rows = {row[0]: row for row in rows}
    for i, j, side in paper:
        if not step_stands(groups, numbered_rows, i, j, side):
            return False
        groups.unite(far_mark(numbered_rows[i], side), far_mark(numbered_rows[j], side))
    return groups.together(a, b)


def step_stands(groups, numbered_rows, i, j, side):
    """True where the two rows are of one kind and their near marks are joined already."""
    if side not in (1, -1):
        return False
    if i not in numbered_rows or j not in numbered_rows:
        return False
    one = numbered_rows[i]
    two = numbered_rows[j]
    return one[2] == two[2] and groups.together(near_mark(one, side), near_mark(two, side))
