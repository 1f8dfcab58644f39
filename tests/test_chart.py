"""Points [2], [3] and [12]: charts, their fields and calls, and what is refused."""

import inspect
import itertools
import random
import unittest

from chalkcave.chart import Chart
from chalkcave.errors import NoChamber, NoChart, NoKind
from tests.plain_charts import known, plain_step, plain_trace, ring_table, row_table, some_table


def some_charts():
    """Tables of many shapes, with their kinds."""
    chance = random.Random(12)
    for turn in range(60):
        kinds = chance.randint(1, 5)
        yield kinds, some_table(chance, kinds, chance.randint(1, 12), chance.choice([0, 30, 60, 90, 100]))


class Interface(unittest.TestCase):
    def test_arguments(self):
        told = {
            "__init__": ["self", "kinds", "table"], "size": ["self"], "passages": ["self"], "full": ["self"],
            "table": ["self"], "step": ["self", "chamber", "letter"], "trace": ["self", "chamber", "way"],
        }
        for name, arguments in told.items():
            with self.subTest(name):
                self.assertIn(name, vars(Chart))
                self.assertEqual(list(inspect.signature(vars(Chart)[name]).parameters), arguments)

    def test_by_keyword(self):
        chart = Chart(kinds=1, table=[[0]])
        self.assertEqual(chart.step(chamber=0, letter=1), 0)
        self.assertEqual(chart.trace(chamber=0, way=[1]), 0)


class Made(unittest.TestCase):
    def check(self, kinds, table):
        chart = Chart(kinds, table)
        self.assertEqual(chart.kinds, kinds)
        self.assertEqual(chart.size(), len(table))
        self.assertEqual(chart.passages(), len(known(table)))
        self.assertIs(chart.full(), len(known(table)) == kinds * len(table))
        told = chart.table()
        self.assertEqual(told, table)
        self.assertIs(type(told), list)
        for ends in told:
            self.assertIs(type(ends), list)

    def test_one_chamber(self):
        self.check(1, [[None]])
        self.check(1, [[0]])
        self.check(5, [[None] * 5])
        self.check(5, [[0] * 5])
        self.check(3, [[0, None, 0]])

    def test_one_kind(self):
        self.check(1, row_table(4))
        self.check(1, ring_table(4))
        self.check(1, [[1], [0], [2]])

    def test_each_number_of_kinds(self):
        for kinds in range(1, 6):
            self.check(kinds, [[1] * kinds, [0] * kinds])

    def test_no_passage_known(self):
        chart = Chart(2, [[None, None], [None, None]])
        self.assertEqual(chart.passages(), 0)
        self.assertIs(chart.full(), False)

    def test_all_known(self):
        chart = Chart(2, [[1, 0], [0, 1]])
        self.assertEqual(chart.passages(), 4)
        self.assertIs(chart.full(), True)

    def test_all_but_one_known(self):
        for chamber, place in itertools.product(range(2), range(2)):
            table = [[1, 0], [0, 1]]
            table[chamber][place] = None
            chart = Chart(2, table)
            self.assertEqual(chart.passages(), 3)
            self.assertIs(chart.full(), False)

    def test_two_kinds_may_lead_to_one_chamber(self):
        self.check(2, [[1, 1], [None, None]])
        self.check(2, [[1, None], [None, 1]])
        self.check(3, [[0, 0, 0], [1, 1, 1]])

    def test_chambers_that_cannot_be_met(self):
        self.check(1, [[None], [2], [1]])

    def test_the_most_chambers(self):
        self.check(1, ring_table(700))
        self.check(1, row_table(700))
        self.check(5, [[None] * 5 for chamber in range(700)])
        self.check(5, some_table(random.Random(1), 5, 700, 100))

    def test_many(self):
        for kinds, table in some_charts():
            self.check(kinds, table)


class Refused(unittest.TestCase):
    def refused(self, kinds, table):
        with self.subTest(kinds=kinds, table=str(table)[:80]):
            with self.assertRaises(NoChart):
                Chart(kinds, table)

    def test_kinds(self):
        for kinds in (0, -1, -5, 6, 7, 10 ** 30, -10 ** 30):
            self.refused(kinds, [[None] * min(max(kinds, 0), 10)])
        self.refused(0, [[], []])
        self.refused(0, [])
        self.refused(6, [[0] * 6])

    def test_chambers(self):
        self.refused(1, [])
        self.refused(5, [])
        self.refused(1, ring_table(701))
        self.refused(1, [[None]] * 701)
        self.refused(1, [[None]] * 5000)

    def test_a_thing_more_or_less(self):
        self.refused(1, [[]])
        self.refused(1, [[None, None]])
        self.refused(2, [[None]])
        self.refused(2, [[None, None], [None]])
        self.refused(2, [[None], [None, None]])
        self.refused(2, [[None, None], [None, None, None]])
        self.refused(2, [[None, None], [None, None], []])
        self.refused(5, [[0] * 4])
        self.refused(5, [[0] * 6])

    def test_no_chamber(self):
        for number in (-1, -2, -3, 2, 3, 700, 10 ** 30, -10 ** 30):
            self.refused(1, [[number], [None]])
            self.refused(1, [[None], [number]])
            self.refused(2, [[0, number], [1, None]])
        self.refused(1, [[-1]])
        self.refused(1, [[1]])
        table = ring_table(700)
        table[350] = [700]
        self.refused(1, table)

    def test_two_chambers_lead_to_one(self):
        self.refused(1, [[0], [0]])
        self.refused(1, [[1], [1]])
        self.refused(1, [[2], [None], [2]])
        self.refused(2, [[None, 0], [None, 0]])
        self.refused(5, [[0, 0, 0, 0, 0], [1, 1, 1, 1, 0]])
        table = ring_table(700)
        table[699] = [350]
        self.refused(1, table)


class Step(unittest.TestCase):
    def test_along_and_back(self):
        chart = Chart(2, [[1, None], [2, 0], [None, 2]])
        self.assertEqual([chart.step(chamber, 1) for chamber in range(3)], [1, 2, None])
        self.assertEqual([chart.step(chamber, -1) for chamber in range(3)], [None, 0, 1])
        self.assertEqual([chart.step(chamber, 2) for chamber in range(3)], [None, 0, 2])
        self.assertEqual([chart.step(chamber, -2) for chamber in range(3)], [1, None, 2])

    def test_back_into_its_own_chamber(self):
        chart = Chart(1, [[0], [None]])
        self.assertEqual(chart.step(0, 1), 0)
        self.assertEqual(chart.step(0, -1), 0)
        self.assertIsNone(chart.step(1, 1))
        self.assertIsNone(chart.step(1, -1))

    def test_the_most_chambers(self):
        chart = Chart(1, ring_table(700))
        self.assertEqual(chart.step(699, 1), 0)
        self.assertEqual(chart.step(0, -1), 699)

    def test_many(self):
        for kinds, table in some_charts():
            chart = Chart(kinds, table)
            for chamber in range(len(table)):
                for letter in [*range(-kinds, 0), *range(1, kinds + 1)]:
                    self.assertEqual(chart.step(chamber, letter), plain_step(table, chamber, letter))

    def test_no_chamber(self):
        chart = Chart(1, [[1], [0], [2]])
        for chamber in (-1, -2, -3, -4, 3, 4, 700, 10 ** 30, -10 ** 30):
            for letter in (1, -1, 0, 2, -9):
                with self.subTest(chamber=chamber, letter=letter):
                    with self.assertRaises(NoChamber):
                        chart.step(chamber, letter)

    def test_no_kind(self):
        for kinds in range(1, 6):
            chart = Chart(kinds, [[1] * kinds, [None] * kinds])
            for chamber in (0, 1):
                for letter in (0, kinds + 1, -kinds - 1, 6, -6, 10 ** 30, -10 ** 30):
                    with self.subTest(kinds=kinds, letter=letter):
                        with self.assertRaises(NoKind):
                            chart.step(chamber, letter)


class Trace(unittest.TestCase):
    def setUp(self):
        self.chart = Chart(2, [[1, None], [2, 0], [None, 2]])

    def test_the_empty_way(self):
        self.assertEqual([self.chart.trace(chamber, []) for chamber in range(3)], [0, 1, 2])

    def test_along_and_back(self):
        self.assertEqual(self.chart.trace(0, [1]), 1)
        self.assertEqual(self.chart.trace(0, [1, 1]), 2)
        self.assertEqual(self.chart.trace(0, [1, 1, 2, 2, -1]), 1)
        self.assertEqual(self.chart.trace(0, [1, 2]), 0)
        self.assertEqual(self.chart.trace(2, [-1, -1, -2]), 1)

    def test_not_known(self):
        self.assertIsNone(self.chart.trace(0, [2]))
        self.assertIsNone(self.chart.trace(0, [-1]))
        self.assertIsNone(self.chart.trace(0, [1, 1, 1]))
        self.assertIsNone(self.chart.trace(0, [2, 1]))
        self.assertIsNone(self.chart.trace(2, [1, 2, -1]))

    def test_its_cancelled_way_is_walked(self):
        self.assertEqual(self.chart.trace(0, [2, -2]), 0)
        self.assertEqual(self.chart.trace(0, [-1, 1]), 0)
        self.assertEqual(self.chart.trace(0, [2, 1, -1, -2, 1]), 1)
        self.assertEqual(self.chart.trace(0, [1, 1, 1, 2, -2, -1]), 2)
        self.assertEqual(Chart(1, [[None]]).trace(0, [1] * 300 + [-1] * 300), 0)
        self.assertIsNone(Chart(1, [[None]]).trace(0, [1] * 300 + [-1] * 299))

    def test_long_ways(self):
        chart = Chart(1, ring_table(7))
        self.assertEqual(chart.trace(0, [1] * 600), 600 % 7)
        self.assertEqual(chart.trace(3, [-1] * 600), (3 - 600) % 7)
        self.assertEqual(chart.trace(0, [1] * 1500), 1500 % 7)
        row = Chart(1, row_table(700))
        self.assertEqual(row.trace(0, [1] * 699), 699)
        self.assertIsNone(row.trace(0, [1] * 700))
        self.assertEqual(row.trace(699, [-1] * 600), 99)

    def test_all_short_ways(self):
        table = self.chart.table()
        for length in range(5):
            for way in itertools.product([1, -1, 2, -2], repeat=length):
                for chamber in range(3):
                    told = self.chart.trace(chamber, list(way))
                    self.assertEqual(told, plain_trace(table, chamber, way), (chamber, way))

    def test_many(self):
        chance = random.Random(2)
        for kinds, table in some_charts():
            chart = Chart(kinds, table)
            for turn in range(20):
                way = [chance.choice([-1, 1]) * chance.randint(1, kinds) for place in range(chance.randrange(9))]
                chamber = chance.randrange(len(table))
                self.assertEqual(chart.trace(chamber, way), plain_trace(table, chamber, way))

    def test_no_chamber(self):
        for chamber in (-1, -3, 3, 4, 700, 10 ** 30):
            for way in ([], [1], [1, -1], [0], [3], [3, -3], [2, 9]):
                with self.subTest(chamber=chamber, way=way):
                    with self.assertRaises(NoChamber):
                        self.chart.trace(chamber, way)

    def test_no_kind(self):
        for letter in (0, 3, -3, 5, 6, -6, 10 ** 30):
            for way in (
                [letter], [letter, -letter], [-letter, letter], [1, letter], [letter, 1], [2, letter, -letter],
                [2, 2, 2, letter], [1, letter, -letter, -1], [1, -1, letter], [1] * 599 + [letter],
            ):
                with self.subTest(way=way[:10]):
                    with self.assertRaises(NoKind):
                        self.chart.trace(0, way)


class NothingKept(unittest.TestCase):
    """Point [2], for charts."""

    def deeds(self, chart):
        return (
            chart.kinds, chart.size(), chart.passages(), chart.full(), chart.table(),
            [chart.step(0, letter) for letter in (1, -1, 2, -2)], chart.trace(0, [1, 2, 1]),
        )

    def test_the_handed_table_changed_behind_the_call(self):
        table = [[1, None], [None, 0]]
        chart = Chart(2, table)
        before = self.deeds(chart)
        self.assertEqual(table, [[1, None], [None, 0]])
        table[0][0] = None
        table[1].append(7)
        table[1][1] = 1
        table.append([2, 2])
        self.assertEqual(self.deeds(chart), before)
        table.clear()
        self.assertEqual(self.deeds(chart), before)

    def test_the_told_table_changed(self):
        chart = Chart(2, [[1, None], [None, 0]])
        before = self.deeds(chart)
        told = chart.table()
        told[0][0] = 0
        told[1].clear()
        told.append([5, 5])
        self.assertEqual(self.deeds(chart), before)
        self.assertIsNot(chart.table(), chart.table())
        self.assertIsNot(chart.table()[0], chart.table()[0])

    def test_one_list_handed_in_for_two_chambers(self):
        ends = [None, None]
        chart = Chart(2, [ends, ends])
        told = chart.table()
        told[0][0] = 1
        self.assertEqual(told[1], [None, None])
        self.assertEqual(chart.table(), [[None, None], [None, None]])

    def test_the_handed_table_stays_where_it_is_refused(self):
        table = [[0], [0]]
        with self.assertRaises(NoChart):
            Chart(1, table)
        self.assertEqual(table, [[0], [0]])

    def test_the_handed_way_stays(self):
        chart = Chart(2, [[1, None], [None, 0]])
        way = [1, 2, -2, 2]
        self.assertEqual(chart.trace(0, way), 0)
        self.assertEqual(way, [1, 2, -2, 2])
        bad = [1, -1, 3]
        with self.assertRaises(NoKind):
            chart.trace(0, bad)
        self.assertEqual(bad, [1, -1, 3])

    def test_two_charts_beside_each_other(self):
        table = [[1, None], [None, 0]]
        one = Chart(2, table)
        table[0] = [0, 1]
        two = Chart(2, table)
        three = Chart(2, two.table())
        self.assertEqual(one.table(), [[1, None], [None, 0]])
        self.assertEqual(two.table(), [[0, 1], [None, 0]])
        self.assertEqual(three.table(), two.table())
        self.assertEqual((one.step(0, 1), two.step(0, 1)), (1, 0))

    def test_a_refused_call_changes_nothing(self):
        chart = Chart(2, [[1, None], [None, 0]])
        before = self.deeds(chart)
        for call in (
            lambda: chart.step(2, 1), lambda: chart.step(0, 3), lambda: chart.trace(-1, []), lambda: chart.trace(0, [0]),
        ):
            with self.assertRaises((NoChamber, NoKind)):
                call()
        self.assertEqual(self.deeds(chart), before)


if __name__ == "__main__":
    unittest.main()
