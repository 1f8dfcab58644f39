"""Points [2], [13] and [27]: the meeting of two charts."""

import inspect
import random
import unittest

from chalkcave import meets as module
from chalkcave.chart import Chart
from chalkcave.errors import NoChart
from chalkcave.homes import homes
from chalkcave.meets import met
from tests.plain_books import plain_met
from tests.plain_charts import plain_numbered, plain_trace, ring_table, row_table, some_table


def chart_of(table):
    return Chart(len(table[0]), table)


class Interface(unittest.TestCase):
    def test_arguments(self):
        self.assertEqual(list(inspect.signature(module.met).parameters), ["one", "two"])

    def test_by_keyword(self):
        self.assertEqual(met(one=chart_of([[0]]), two=chart_of([[None]])).table(), [[None]])


class Met(unittest.TestCase):
    def check(self, one, two):
        told = met(chart_of(one), chart_of(two))
        self.assertIs(type(told), Chart)
        self.assertEqual(told.kinds, len(one[0]))
        self.assertEqual(told.table(), plain_met(one, two))
        return told

    def test_small(self):
        self.assertEqual(self.check([[0]], [[0]]).table(), [[0]])
        self.assertEqual(self.check([[None]], [[0]]).table(), [[None]])
        self.assertEqual(self.check([[0]], [[None]]).table(), [[None]])
        self.assertEqual(self.check([[0, None]], [[None, 0]]).table(), [[None, None]])

    def test_order_of_numbers(self):
        # From (0, 0): kind 1 along, kind 1 back, kind 2 along.
        one = [[1, 3], [None, None], [0, None], [None, None]]
        self.assertEqual(self.check(one, one).table(), [[1, 3], [None, None], [0, None], [None, None]])
        two = [[2, 1], [None, None], [None, None], [0, None]]
        self.assertEqual(self.check(one, two).table(), [[1, 3], [None, None], [0, None], [None, None]])

    def test_rings(self):
        self.assertEqual(self.check(ring_table(2), ring_table(3)).table(), [[1], [3], [0], [5], [2], [4]])
        self.assertEqual(self.check(ring_table(4), ring_table(6)).size(), 12)
        self.assertEqual(self.check(ring_table(5), ring_table(5)).size(), 5)
        self.assertEqual(self.check(ring_table(5), ring_table(1)).table(), plain_numbered(ring_table(5), 0))

    def test_rows_and_rings(self):
        self.assertEqual(self.check(row_table(5), ring_table(3)).size(), 5)
        self.assertEqual(self.check(row_table(5), row_table(3)).size(), 3)

    def test_a_passage_that_one_has_and_one_has_not(self):
        self.assertEqual(self.check([[1, 0], [0, None]], [[0, 0]]).table(), plain_met([[1, 0], [0, None]], [[0, 0]]))
        self.assertEqual(self.check([[1, 0], [0, None]], [[0, None]]).passages(), 2)

    def test_with_itself(self):
        chance = random.Random(2)
        for turn in range(20):
            table = some_table(chance, 2, chance.randint(1, 9), 80)
            chart = chart_of(table)
            self.assertEqual(met(chart, chart).table(), plain_met(table, table))

    def test_many(self):
        chance = random.Random(27)
        for turn in range(150):
            kinds = chance.randint(1, 5)
            one, two = [
                some_table(chance, kinds, chance.randint(1, 9), chance.choice([20, 50, 80, 100])) for side in range(2)
            ]
            self.check(one, two)

    def test_large(self):
        chance = random.Random(28)
        for one, two in ((1, 700), (700, 1), (2, 350), (350, 2), (7, 100), (25, 28), (26, 26), (20, 35)):
            for kinds, share in ((1, 100), (2, 100), (2, 95), (3, 70), (5, 100)):
                self.check(some_table(chance, kinds, one, share), some_table(chance, kinds, two, share))

    def test_as_large_as_can_be(self):
        ring = plain_numbered(ring_table(700), 0)
        self.assertEqual(self.check(ring_table(25), ring_table(28)).table(), ring)
        self.assertEqual(self.check(ring_table(1), ring_table(700)).table(), ring)
        self.assertEqual(self.check(row_table(700), ring_table(1)).table(), row_table(700))

    def test_home_just_where_it_is_in_both(self):
        chance = random.Random(29)
        at_home = 0
        for turn in range(60):
            kinds = chance.randint(1, 3)
            one, two = [some_table(chance, kinds, chance.randint(1, 5), 90) for side in range(2)]
            told = met(chart_of(one), chart_of(two))
            ways = homes(told) + homes(chart_of(one)) + homes(chart_of(two))
            for length in range(12):
                ways.append([chance.choice([-1, 1]) * chance.randint(1, kinds) for turn in range(length)])
            for way in ways:
                both = plain_trace(one, 0, way) == 0 and plain_trace(two, 0, way) == 0
                self.assertEqual(told.trace(0, way) == 0, both)
                at_home += both
        self.assertGreater(at_home, 100)


class Refused(unittest.TestCase):
    def test_unlike_kinds(self):
        for one in range(1, 6):
            for two in range(1, 6):
                ones, twos = chart_of([[0] * one]), chart_of([[None] * two])
                if one == two:
                    self.assertEqual(met(ones, twos).kinds, one)
                else:
                    with self.assertRaises(NoChart):
                        met(ones, twos)


class Kept(unittest.TestCase):
    def test_charts_stay_as_they_were(self):
        one, two = chart_of([[1, None], [0, 1]]), chart_of([[0, 0]])
        told = met(one, two)
        wanted = told.table()
        told.table()[0][0] = None
        told.table().pop()
        self.assertEqual(told.table(), wanted)
        self.assertEqual(one.table(), [[1, None], [0, 1]])
        self.assertEqual(two.table(), [[0, 0]])
        self.assertEqual(met(one, two).table(), wanted)


if __name__ == "__main__":
    unittest.main()
