"""Points [2] and [8] to [11]: folding, the papers that it tells, and trails."""

import inspect
import itertools
import random
import unittest

from chalkcave import folding
from chalkcave.folding import folded, trail
from tests.plain import plain_labels, plain_steps, some_pairs, some_rows


class Interface(unittest.TestCase):
    def test_arguments(self):
        told = {"folded": ["marks", "rows", "start"], "trail": ["first", "a", "way"]}
        for name, arguments in told.items():
            with self.subTest(name):
                self.assertEqual(list(inspect.signature(getattr(folding, name)).parameters), arguments)


class FoldingCase(unittest.TestCase):
    def check(self, marks, rows, start, wanted):
        """The labels are the wanted ones and the paper stands for just them, each step joining something."""
        told = folded(marks, rows, start)
        self.assertIs(type(told), tuple)
        self.assertEqual(len(told), 2)
        labels, paper = told
        self.assertIs(type(labels), list)
        self.assertEqual(labels, wanted)
        self.check_kinds(paper)
        self.assertEqual(plain_steps(marks, rows, start, paper), (wanted, 0))

    def check_kinds(self, paper):
        self.assertIs(type(paper), list)
        for step in paper:
            self.assertIs(type(step), tuple)
            self.assertEqual([type(thing) for thing in step], [int, int, int])


class Folded(FoldingCase):
    def test_no_marks(self):
        self.assertEqual(folded(0, [], []), ([], []))

    def test_no_rows(self):
        self.assertEqual(folded(4, [], []), ([0, 1, 2, 3], []))
        self.assertEqual(folded(1, [], []), ([0], []))

    def test_one_row(self):
        self.assertEqual(folded(2, [(1, 0, 1, 1)], []), ([0, 1], []))

    def test_first_marks_joined(self):
        self.check(3, [(1, 0, 1, 1), (2, 0, 1, 2)], [], [0, 1, 1])

    def test_last_marks_joined(self):
        self.check(3, [(1, 1, 1, 0), (2, 2, 1, 0)], [], [0, 1, 1])

    def test_a_last_and_a_first_mark_join_nothing(self):
        self.check(3, [(1, 0, 1, 1), (2, 1, 1, 2)], [], [0, 1, 2])

    def test_unlike_kinds_join_nothing(self):
        self.check(3, [(1, 0, 1, 1), (2, 0, 2, 2)], [], [0, 1, 2])
        self.check(3, [(1, 1, 1, 0), (2, 2, 2, 0)], [], [0, 1, 2])

    def test_several_kinds(self):
        rows = [(1, 0, 1, 1), (2, 0, 2, 2), (3, 0, 1, 3), (4, 0, 2, 4), (5, 0, 5, 5)]
        self.check(6, rows, [], [0, 1, 2, 1, 2, 5])

    def test_a_row_of_a_mark_to_itself(self):
        self.check(1, [(1, 0, 1, 0)], [], [0])
        self.check(2, [(1, 0, 1, 0), (2, 0, 1, 1)], [], [0, 0])
        self.check(2, [(1, 0, 1, 0), (2, 1, 1, 0)], [], [0, 0])
        self.check(2, [(1, 0, 1, 0), (2, 1, 1, 1)], [], [0, 1])
        self.check(2, [(1, 1, 1, 1), (2, 0, 2, 1)], [], [0, 1])

    def test_rows_that_tell_the_same(self):
        self.check(2, [(1, 0, 1, 1), (2, 0, 1, 1)], [], [0, 1])

    def test_numbers_of_rows_below_nought_and_great(self):
        rows = [(-10 ** 30, 0, 1, 1), (10 ** 30, 0, 1, 2), (0, 3, 2, 1), (-1, 4, 2, 2)]
        self.check(5, rows, [], [0, 1, 1, 3, 3])

    def test_joined_from_the_start(self):
        self.check(3, [], [(0, 2)], [0, 1, 0])
        self.check(3, [], [(2, 0)], [0, 1, 0])
        self.check(4, [], [(3, 2), (2, 1)], [0, 1, 1, 1])
        self.check(2, [], [(1, 1)], [0, 1])
        self.check(2, [], [(0, 1), (1, 0), (0, 1)], [0, 0])

    def test_what_is_joined_from_the_start_is_no_step(self):
        self.assertEqual(folded(3, [], [(0, 2)])[1], [])
        rows = [(1, 0, 1, 2), (2, 1, 1, 3)]
        self.check(4, rows, [(0, 1), (2, 3)], [0, 0, 2, 2])
        self.assertEqual(folded(4, rows, [(0, 1), (2, 3)])[1], [])

    def test_the_start_brings_about_others(self):
        rows = [(1, 0, 1, 2), (2, 1, 1, 3)]
        self.check(4, rows, [(0, 1)], [0, 0, 2, 2])
        self.check(4, rows, [(3, 2)], [0, 0, 2, 2])
        self.check(4, rows, [], [0, 1, 2, 3])

    def test_joinings_that_bring_about_others(self):
        rows = [(1, 0, 1, 1), (2, 0, 1, 2), (3, 1, 2, 3), (4, 2, 2, 4), (5, 3, 1, 5), (6, 4, 1, 6)]
        wanted = [0, 1, 1, 3, 3, 5, 5]
        for order in itertools.permutations(rows):
            self.check(7, list(order), [], wanted)

    def test_joinings_back_and_forth(self):
        rows = [(1, 1, 1, 0), (2, 2, 1, 0), (3, 1, 2, 3), (4, 2, 2, 4), (5, 5, 3, 3), (6, 6, 3, 4)]
        self.check(7, rows, [], [0, 1, 1, 3, 3, 5, 5])

    def test_a_ring_that_closes(self):
        # Two and three steps of kind 1 lead back to mark 0, so one step does.
        rows = [(1, 0, 1, 1), (2, 1, 1, 0), (3, 0, 1, 2), (4, 2, 1, 3), (5, 3, 1, 0)]
        self.check(4, rows, [], [0, 0, 0, 0])

    def test_labels_are_the_least_marks(self):
        self.check(5, [(1, 4, 1, 3), (2, 4, 1, 1), (3, 2, 2, 0)], [], [0, 1, 2, 1, 4])
        self.check(4, [(1, 3, 1, 2), (2, 3, 1, 0)], [], [0, 1, 0, 3])

    def test_all_small_ones(self):
        rows = [(a, kind, b) for a in range(3) for kind in (1, 2) for b in range(3)]
        for chosen in itertools.combinations(rows, 3):
            numbered = [(at - 1,) + row for at, row in enumerate(chosen)]
            for start in ([], [(0, 2)]):
                self.check(3, numbered, start, plain_labels(3, numbered, start))

    def test_many(self):
        chance = random.Random(10)
        for turn in range(300):
            marks = chance.randint(1, 14)
            rows = some_rows(chance, marks, chance.randrange(18), chance.randint(1, 5))
            start = some_pairs(chance, marks, chance.choice([0, 0, 1, 3]))
            self.check(marks, rows, start, plain_labels(marks, rows, start))

    def test_the_same_in_every_order(self):
        chance = random.Random(11)
        for turn in range(50):
            rows = some_rows(chance, 12, 14, 2)
            labels = folded(12, rows, [])[0]
            for again in range(5):
                chance.shuffle(rows)
                self.check(12, rows, [], labels)


class LargeFoldings(FoldingCase):
    def check_long_chain(self, rows, marks, wanted):
        labels, paper = folded(marks, rows, [])
        self.assertEqual(labels, wanted)
        self.check_kinds(paper)
        self.assertEqual(len(paper), marks - len(set(wanted)))

    def two_chains(self, long):
        rows = [(at, at, 1, at + 1) for at in range(long)]
        rows.append((long, 0, 1, long + 1))
        rows += [(long + at, long + at, 1, long + at + 1) for at in range(1, long)]
        return rows

    def test_two_long_chains_from_one_mark(self):
        long = 700
        wanted = list(range(long + 1)) + list(range(1, long + 1))
        rows = self.two_chains(long)
        self.check_long_chain(rows, 2 * long + 1, wanted)
        self.check_long_chain(rows[::-1], 2 * long + 1, wanted)

    def test_a_long_trail_of_one_kind_over_a_mark_that_leads_to_itself(self):
        rows, end = trail(1, 0, [1] * 700)
        rows.append((5, 0, 1, 0))
        self.assertEqual(folded(701, rows, [])[0], [0] * 701)

    def test_a_long_way_there_and_back(self):
        rows, end = trail(1, 0, [1, 2] * 150 + [-2, -1] * 150)
        labels, paper = folded(601, rows, [])
        self.assertEqual(labels[end], 0)
        self.assertEqual(labels, [min(mark, 600 - mark) for mark in range(601)])
        self.assertEqual(len(paper), 300)

    def test_a_book_of_rows_and_a_long_trail(self):
        chance = random.Random(12)
        rows = some_rows(chance, 24, 40, 5)
        way = [chance.choice([-3, -2, -1, 1, 2, 3]) for at in range(60)]
        laid, end = trail(24, 7, way)
        numbered = [(at + 1,) + row[1:] for at, row in enumerate(rows)] + laid
        self.check(84, numbered, [], plain_labels(84, numbered, []))
        self.check(84, numbered, [(end, 3)], plain_labels(84, numbered, [(end, 3)]))


class NothingKept(unittest.TestCase):
    """Point [2], for folding."""

    def test_the_handed_lists_stay(self):
        rows = [(3, 0, 1, 1), (1, 0, 1, 2), (2, 3, 2, 1), (-4, 4, 2, 2)]
        start = [(4, 4), (2, 1)]
        folded(5, rows, start)
        self.assertEqual(rows, [(3, 0, 1, 1), (1, 0, 1, 2), (2, 3, 2, 1), (-4, 4, 2, 2)])
        self.assertEqual(start, [(4, 4), (2, 1)])

    def test_the_told_lists_are_new(self):
        rows = [(1, 0, 1, 1), (2, 0, 1, 2)]
        start = []
        labels, paper = folded(3, rows, start)
        labels.append(7)
        labels[0] = 5
        paper.append((1, 1, 1))
        paper[0] = (0, 0, 0)
        self.assertEqual((rows, start), ([(1, 0, 1, 1), (2, 0, 1, 2)], []))
        again = folded(3, rows, start)
        self.assertEqual(again[0], [0, 1, 1])
        self.assertEqual(len(again[1]), 1)
        self.assertIsNot(folded(0, [], start)[1], start)

    def test_changing_the_handed_lists_changes_nothing_told(self):
        rows = [(1, 0, 1, 1), (2, 0, 1, 2)]
        start = [(0, 1)]
        told = folded(3, rows, start)
        copies = (list(told[0]), list(told[1]))
        rows.clear()
        start.append((1, 2))
        self.assertEqual(told, copies)

    def test_trail_keeps_and_changes_nothing(self):
        way = [1, -2, 2]
        rows, end = trail(4, 0, way)
        copy = list(rows)
        self.assertEqual(way, [1, -2, 2])
        way.append(3)
        way[0] = 5
        self.assertEqual(rows, copy)
        rows.append((0, 0, 1, 0))
        self.assertEqual(trail(4, 0, [1, -2, 2]), (copy, end))
        empty = []
        trail(4, 0, empty)[0].append(1)
        self.assertEqual(empty, [])
        self.assertEqual(trail(4, 0, empty), ([], 0))


class Trail(unittest.TestCase):
    def test_the_empty_way(self):
        self.assertEqual(trail(5, 3, []), ([], 3))
        self.assertEqual(trail(1, 0, []), ([], 0))

    def test_along(self):
        self.assertEqual(trail(5, 3, [2]), ([(-1, 3, 2, 5)], 5))

    def test_back(self):
        self.assertEqual(trail(5, 3, [-2]), ([(-1, 5, 2, 3)], 5))

    def test_both(self):
        wanted = [(-1, 0, 1, 4), (-2, 5, 3, 4), (-3, 6, 5, 5), (-4, 6, 2, 7)]
        self.assertEqual(trail(4, 0, [1, -3, -5, 2]), (wanted, 7))

    def test_as_it_stands(self):
        self.assertEqual(trail(1, 0, [1, -1]), ([(-1, 0, 1, 1), (-2, 2, 1, 1)], 2))

    def test_kinds_of_values(self):
        told = trail(2, 1, [1, -1])
        self.assertIs(type(told), tuple)
        self.assertIs(type(told[0]), list)
        for row in told[0]:
            self.assertIs(type(row), tuple)
        self.assertIs(type(told[1]), int)

    def test_long_and_somewhat_beyond_the_limits(self):
        rows, end = trail(24, 0, [-5, 6] * 400)
        self.assertEqual(end, 823)
        self.assertEqual(len(rows), 800)
        self.assertEqual(rows[0], (-1, 24, 5, 0))
        self.assertEqual(rows[1], (-2, 24, 6, 25))
        self.assertEqual(rows[2], (-3, 26, 5, 25))
        self.assertEqual(rows[799], (-800, 822, 6, 823))


if __name__ == "__main__":
    unittest.main()
