"""Points [2] and [10]: whether a paper stands."""

import inspect
import random
import unittest

from chalkcave import papers
from chalkcave.folding import folded, trail
from chalkcave.papers import joins
from tests.plain import plain_steps, some_pairs, some_rows

ROWS = [
    (1, 0, 1, 1), (2, 0, 1, 2),
    (3, 1, 2, 3), (4, 2, 2, 4),
    (5, 5, 3, 3), (6, 6, 3, 4),
    (7, 7, 1, 7),
]
MARKS = 8


class JoinsCase(unittest.TestCase):
    def stands(self, paper, a, b, start=()):
        self.assertIs(joins(MARKS, ROWS, list(start), paper, a, b), True)

    def falls(self, paper, a, b, start=()):
        self.assertIs(joins(MARKS, ROWS, list(start), paper, a, b), False)


class Joins(JoinsCase):
    def test_arguments(self):
        wanted = ["marks", "rows", "start", "paper", "a", "b"]
        self.assertEqual(list(inspect.signature(papers.joins).parameters), wanted)

    def test_the_empty_paper(self):
        self.stands([], 3, 3)
        self.falls([], 1, 2)
        self.stands([], 1, 2, [(1, 2)])
        self.stands([], 5, 1, [(1, 2), (2, 5)])

    def test_a_step_of_side_one(self):
        self.stands([(1, 2, 1)], 1, 2)
        self.stands([(1, 2, 1)], 2, 1)
        self.stands([(2, 1, 1)], 1, 2)

    def test_a_step_of_side_minus_one(self):
        self.stands([(5, 6, -1)], 5, 6, [(3, 4)])
        self.stands([(6, 5, -1)], 6, 5, [(4, 3)])

    def test_steps_that_need_others(self):
        paper = [(1, 2, 1), (3, 4, 1), (5, 6, -1)]
        self.stands(paper, 1, 2)
        self.stands(paper, 3, 4)
        self.stands(paper, 5, 6)
        self.falls(paper, 0, 1)
        self.falls(paper, 5, 3)

    def test_marks_that_the_paper_does_not_join(self):
        self.falls([(1, 2, 1)], 3, 4)
        self.falls([(1, 2, 1)], 0, 1)

    def test_joined_through_others(self):
        rows = [(1, 0, 1, 1), (2, 0, 1, 2), (3, 0, 1, 3)]
        self.assertIs(joins(4, rows, [], [(1, 2, 1), (2, 3, 1)], 1, 3), True)
        self.assertIs(joins(4, rows, [], [(1, 2, 1)], 1, 3), False)
        self.assertIs(joins(4, rows, [(3, 0)], [(1, 2, 1), (2, 3, 1)], 0, 1), True)

    def test_numbers_below_nought_and_great(self):
        rows = [(-10 ** 30, 0, 1, 1), (10 ** 30, 0, 1, 2), (-1, 3, 1, 4), (0, 5, 1, 4)]
        self.assertIs(joins(6, rows, [], [(-10 ** 30, 10 ** 30, 1)], 1, 2), True)
        self.assertIs(joins(6, rows, [], [(-1, 0, -1)], 3, 5), True)
        self.assertIs(joins(6, rows, [], [(1, 0, -1)], 3, 5), False)


class FallingSteps(JoinsCase):
    def test_the_wrong_side(self):
        self.falls([(1, 2, -1)], 1, 2)
        self.falls([(5, 6, 1)], 5, 6, [(3, 4)])
        self.falls([(3, 4, -1)], 3, 4, [(1, 2)])

    def test_another_side(self):
        for side in (0, 2, -2, 3, 10 ** 20, -10 ** 20):
            with self.subTest(side=side):
                self.falls([(1, 2, side)], 1, 2)
                self.falls([(1, 2, 1), (1, 2, side)], 1, 2)
                self.falls([(1, 1, side)], 0, 0)
                self.falls([(3, 4, side)], 3, 3, [(1, 2), (3, 4)])

    def test_a_number_that_no_row_has(self):
        for number in (0, -1, 8, 100, -7):
            for side in (1, -1):
                with self.subTest(number=number, side=side):
                    self.falls([(1, number, side)], 0, 0)
                    self.falls([(number, 1, side)], 0, 0)
                    self.falls([(number, number, side)], 0, 0)
                    self.falls([(1, 2, 1), (number, number, side)], 1, 2)

    def test_rows_of_unlike_kinds(self):
        rows = [(1, 0, 1, 1), (2, 0, 2, 2), (3, 3, 1, 1), (4, 4, 2, 1)]
        self.assertIs(joins(5, rows, [], [(1, 2, 1)], 1, 2), False)
        self.assertIs(joins(5, rows, [], [(3, 4, -1)], 3, 4), False)
        self.assertIs(joins(5, rows, [(3, 4)], [(3, 4, -1)], 3, 4), False)

    def test_a_step_too_early(self):
        self.falls([(3, 4, 1), (1, 2, 1)], 3, 4)
        self.falls([(3, 4, 1), (1, 2, 1), (3, 4, 1)], 3, 4)
        self.falls([(1, 2, 1), (5, 6, -1), (3, 4, 1)], 5, 6)

    def test_a_falling_step_behind_the_joining(self):
        self.falls([(1, 2, 1), (5, 6, 1)], 1, 2)

    def test_a_falling_step_for_a_mark_with_itself(self):
        self.falls([(3, 4, 1)], 0, 0)


class IdleSteps(JoinsCase):
    def test_one_row_with_itself_joins_nothing(self):
        for side in (1, -1):
            with self.subTest(side=side):
                self.stands([(1, 1, side)], 2, 2)
                self.falls([(1, 1, side)], 0, 1)
                self.falls([(1, 1, side)], 1, 2)
                self.stands([(7, 7, side)], 7, 7)
                self.stands([(1, 1, side), (1, 2, 1), (4, 4, side)], 1, 2)

    def test_a_step_that_joins_what_is_joined_already(self):
        self.stands([(1, 2, 1), (1, 2, 1), (2, 1, 1)], 1, 2)
        self.stands([(1, 2, 1), (3, 4, 1), (3, 4, -1)], 3, 4)
        self.stands([(1, 2, 1)], 1, 2, [(1, 2)])


class JoinsAgainstFolding(unittest.TestCase):
    def test_papers_of_foldings(self):
        chance = random.Random(13)
        for turn in range(100):
            marks = chance.randint(1, 10)
            rows = some_rows(chance, marks, chance.randrange(14), chance.randint(1, 3))
            start = some_pairs(chance, marks, chance.choice([0, 1]))
            labels, paper = folded(marks, rows, start)
            for a in range(marks):
                for b in range(marks):
                    self.assertIs(joins(marks, rows, start, paper, a, b), labels[a] == labels[b])

    def test_papers_at_random(self):
        chance = random.Random(14)
        told = {True: 0, False: 0}
        for turn in range(1500):
            marks = chance.randint(1, 5)
            rows = some_rows(chance, marks, chance.randint(1, 5), 2)
            start = some_pairs(chance, marks, chance.randrange(3))
            numbers = [row[0] for row in rows] * 4 + [99]
            paper = [
                (chance.choice(numbers), chance.choice(numbers), chance.choice([1, 1, 1, -1, -1, -1, 0, 2]))
                for step in range(chance.randrange(4))
            ]
            a, b = chance.randrange(marks), chance.randrange(marks)
            plain = plain_steps(marks, rows, start, paper)
            wanted = plain is not None and plain[0][a] == plain[0][b]
            self.assertIs(joins(marks, rows, start, paper, a, b), wanted)
            told[wanted] += 1
        self.assertGreater(min(told.values()), 100)

    def test_a_long_paper(self):
        rows, end = trail(1, 0, [1, 2] * 200 + [-2, -1] * 200)
        paper = folded(801, rows, [])[1]
        self.assertIs(joins(801, rows, [], paper, 0, end), True)
        self.assertIs(joins(801, rows, [], paper[:-1], 0, end), False)


class NothingKept(unittest.TestCase):
    """Point [2], for papers."""

    def test_the_handed_lists_stay(self):
        rows = list(ROWS)
        start = [(1, 2)]
        paper = [(3, 4, 1), (5, 6, -1)]
        joins(MARKS, rows, start, paper, 5, 6)
        joins(MARKS, rows, start, paper + [(0, 0, 0)], 5, 6)
        self.assertEqual(rows, ROWS)
        self.assertEqual(start, [(1, 2)])
        self.assertEqual(paper, [(3, 4, 1), (5, 6, -1)])

    def test_one_call_leaves_nothing_for_the_next(self):
        self.assertIs(joins(MARKS, ROWS, [], [(1, 2, 1)], 1, 2), True)
        self.assertIs(joins(MARKS, ROWS, [], [], 1, 2), False)
        self.assertIs(joins(MARKS, ROWS, [], [(3, 4, 1)], 3, 4), False)


if __name__ == "__main__":
    unittest.main()
