"""Points [2], [3], [17] and [18]: caves, charts closed to caves, and what is refused."""

import inspect
import random
import unittest

from chalkcave import caves as module
from chalkcave.caves import Cave, closed
from chalkcave.chart import Chart
from chalkcave.errors import NoCave, NoChamber, NoKind, NoMark
from tests.plain_books import walked
from tests.plain_charts import known, ring_table, row_table, some_table


def some_tables(chance, kinds, size):
    return [chance.sample(range(size), size) for kind in range(kinds)]


def some_way(chance, kinds, length):
    return [chance.choice([-1, 1]) * chance.randint(1, kinds) for turn in range(length)]


class Interface(unittest.TestCase):
    def test_arguments(self):
        told = {
            "__init__": ["self", "kinds", "tables", "places"], "size": ["self"], "tables": ["self"],
            "places": ["self"], "walk": ["self", "chamber", "way"], "stands": ["self", "mark"],
        }
        for name, arguments in told.items():
            with self.subTest(name):
                self.assertIn(name, vars(Cave))
                self.assertEqual(list(inspect.signature(vars(Cave)[name]).parameters), arguments)
        self.assertEqual(list(inspect.signature(module.closed).parameters), ["chart", "places"])

    def test_by_keyword(self):
        cave = Cave(kinds=1, tables=[[0]], places=[0])
        self.assertEqual(cave.walk(chamber=0, way=[1]), 0)
        self.assertEqual(cave.stands(mark=0), 0)
        self.assertEqual(closed(chart=Chart(1, [[None]]), places=[0]).tables(), [[0]])


class Made(unittest.TestCase):
    def check(self, kinds, tables, places):
        cave = Cave(kinds, tables, places)
        self.assertEqual(cave.kinds, kinds)
        self.assertEqual(cave.size(), len(tables[0]))
        self.assertEqual(cave.tables(), tables)
        self.assertEqual(cave.places(), places)
        for told in [cave.places(), cave.tables()] + cave.tables():
            self.assertIs(type(told), list)
        for mark, place in enumerate(places):
            self.assertEqual(cave.stands(mark), place)
        return cave

    def test_small(self):
        self.check(1, [[0]], [])
        self.check(1, [[0]], [0, 0, 0])
        self.check(2, [[1, 0], [0, 1]], [1])
        self.check(5, [[0]] * 5, [0])
        self.check(3, [[1, 2, 0], [2, 0, 1], [0, 1, 2]], [2, 0, 2, 1])

    def test_each_number_of_kinds(self):
        for kinds in range(1, 6):
            self.check(kinds, [[1, 0]] * kinds, [0, 1])

    def test_the_most_chambers(self):
        chance = random.Random(17)
        self.check(1, [[(chamber + 1) % 700 for chamber in range(700)]], [699, 0])
        self.check(5, some_tables(chance, 5, 700), list(range(700)))

    def test_many_marks(self):
        self.check(1, [[1, 0]], [0, 1] * 500)

    def test_many(self):
        chance = random.Random(18)
        for turn in range(60):
            kinds, size = chance.randint(1, 5), chance.randint(1, 12)
            places = [chance.randrange(size) for mark in range(chance.randrange(8))]
            self.check(kinds, some_tables(chance, kinds, size), places)


class Refused(unittest.TestCase):
    def refused(self, kinds, tables, places=()):
        with self.subTest(kinds=kinds, tables=str(tables)[:60], places=str(places)[:60]):
            with self.assertRaises(NoCave):
                Cave(kinds, tables, list(places))

    def test_kinds(self):
        for kinds in (0, -1, 6, 7, 10 ** 30, -10 ** 30):
            self.refused(kinds, [[0]] * min(max(kinds, 0), 10))
            self.refused(kinds, [[0]])
            self.refused(kinds, [])

    def test_a_table_more_or_less(self):
        for kinds in range(1, 6):
            self.refused(kinds, [[0]] * (kinds - 1))
            self.refused(kinds, [[0]] * (kinds + 1))
            self.refused(kinds, [])

    def test_empty_tables(self):
        self.refused(1, [[]])
        self.refused(2, [[], []])
        self.refused(2, [[0], []])
        self.refused(2, [[], [0]])

    def test_unlike_in_length(self):
        self.refused(2, [[0], [0, 1]])
        self.refused(2, [[0, 1], [0]])
        self.refused(3, [[0, 1], [1, 0], [1, 0, 2]])
        self.refused(2, [list(range(700)), list(range(701))])

    def test_too_many_chambers(self):
        self.refused(1, [list(range(701))])
        self.refused(5, [list(range(701))] * 5)
        self.refused(1, [list(range(5000))])

    def test_not_each_chamber_once(self):
        self.refused(1, [[1]])
        self.refused(1, [[-1]])
        self.refused(1, [[0, 0]])
        self.refused(1, [[1, 1]])
        self.refused(1, [[0, 2]])
        self.refused(1, [[1, 2]])
        self.refused(1, [[-1, 0]])
        self.refused(1, [[0, -1]])
        self.refused(1, [[0, 10 ** 30]])
        self.refused(2, [[0, 1], [1, 1]])
        self.refused(5, [[1, 0]] * 4 + [[0, 0]])
        self.refused(1, [[0] + list(range(699))])

    def test_a_place_that_is_no_chamber(self):
        for place in (-1, -2, 2, 700, 10 ** 30, -10 ** 30):
            self.refused(1, [[1, 0]], [place])
            self.refused(1, [[1, 0]], [0, 1, place])
            self.refused(1, [[1, 0]], [place, 0])
        self.refused(1, [[0]], [1])
        self.refused(1, [list(range(700))], [700])


class Walked(unittest.TestCase):
    def test_small(self):
        cave = Cave(2, [[1, 2, 0], [0, 2, 1]], [])
        self.assertEqual(cave.walk(0, []), 0)
        self.assertEqual(cave.walk(0, [1]), 1)
        self.assertEqual(cave.walk(0, [-1]), 2)
        self.assertEqual(cave.walk(1, [2]), 2)
        self.assertEqual(cave.walk(0, [1, 2, -1, -1]), 0)
        self.assertEqual(cave.walk(2, [1, -1, 2, -2]), 2)

    def test_many(self):
        chance = random.Random(19)
        for turn in range(80):
            kinds, size = chance.randint(1, 5), chance.randint(1, 12)
            tables = some_tables(chance, kinds, size)
            cave = Cave(kinds, tables, [])
            for length in (0, 1, 2, 5, 40):
                way = some_way(chance, kinds, length)
                chamber = chance.randrange(size)
                self.assertEqual(cave.walk(chamber, way), walked(tables, chamber, way))

    def test_long_in_large(self):
        chance = random.Random(20)
        tables = some_tables(chance, 5, 700)
        cave = Cave(5, tables, [])
        for chamber in (0, 350, 699):
            way = some_way(chance, 5, 600)
            self.assertEqual(cave.walk(chamber, way), walked(tables, chamber, way))
            back = [-letter for letter in way[::-1]]
            self.assertEqual(cave.walk(chamber, way[:300] + back[300:]), chamber)

    def test_no_chamber(self):
        cave = Cave(1, [[1, 0]], [0])
        for chamber in (-1, -2, 2, 3, 10 ** 30, -10 ** 30):
            for way in ([], [1], [1, -1], [2], [0]):
                with self.assertRaises(NoChamber):
                    cave.walk(chamber, way)

    def test_no_kind(self):
        cave = Cave(2, [[1, 0], [0, 1]], [0])
        for way in ([3], [0], [-3], [1, 3], [3, 1], [3, -3], [1, 3, -3, 2], [0, 0], [10 ** 30], [1] * 599 + [0]):
            with self.assertRaises(NoKind):
                cave.walk(0, way)

    def test_no_mark(self):
        for places in ([], [0], [1, 0, 1]):
            cave = Cave(1, [[1, 0]], places)
            for mark in (-1, -2, -3, len(places), len(places) + 1, 10 ** 30, -10 ** 30):
                with self.assertRaises(NoMark):
                    cave.stands(mark)


class Closed(unittest.TestCase):
    def check(self, table, places):
        kinds = len(table[0])
        chart = Chart(kinds, table)
        cave = closed(chart, places)
        self.assertIs(type(cave), Cave)
        self.assertEqual(cave.kinds, kinds)
        self.assertEqual(cave.size(), len(table))
        self.assertEqual(cave.places(), places)
        tables = cave.tables()
        self.assertEqual(len(tables), kinds)
        for ends in tables:
            self.assertEqual(sorted(ends), list(range(len(table))))
        for chamber, kind, there in known(table):
            self.assertEqual(tables[kind - 1][chamber], there)
        self.assertEqual(chart.table(), table)

    def test_small(self):
        self.check([[None]], [])
        self.check([[0]], [0])
        self.check([[None] * 5], [0, 0])
        self.check([[1, None], [None, None], [None, 0]], [2, 1, 0])

    def test_full(self):
        self.check([[1, 0], [0, 1]], [1])
        self.check(ring_table(5), [])

    def test_rows_that_must_be_closed(self):
        self.check(row_table(2), [0, 1])
        self.check(row_table(9), [])
        self.check([[None], [0], [1]], [])

    def test_passages_back_into_their_own_chamber(self):
        self.check([[None], [1], [None]], [])
        self.check([[0, None], [None, None]], [])

    def test_the_most_chambers(self):
        self.check(row_table(700), [0, 699])
        self.check(ring_table(700), [])
        self.check([[None] * 5 for chamber in range(700)], list(range(700)))
        for share in (10, 50, 99, 100):
            self.check(some_table(random.Random(share), 5, 700, share), [350])

    def test_many(self):
        chance = random.Random(21)
        for turn in range(150):
            size = chance.randint(1, 12)
            table = some_table(chance, chance.randint(1, 5), size, chance.choice([0, 20, 50, 80, 100]))
            self.check(table, [chance.randrange(size) for mark in range(chance.randrange(6))])


class Kept(unittest.TestCase):
    def test_what_is_handed_in_may_be_changed(self):
        tables, places = [[1, 0], [0, 1]], [1, 0]
        cave = Cave(2, tables, places)
        tables[0][0] = 0
        tables[1].append(7)
        tables.pop()
        places[0] = 0
        places.append(5)
        self.assertEqual(cave.tables(), [[1, 0], [0, 1]])
        self.assertEqual(cave.places(), [1, 0])
        self.assertEqual(cave.stands(0), 1)
        self.assertEqual(cave.walk(0, [1]), 1)
        self.assertRaises(NoMark, cave.stands, 2)

    def test_what_is_handed_in_is_not_changed(self):
        tables, places, way = [[1, 0], [0, 1]], [1, 0], [1, -1, 2]
        Cave(2, tables, places).walk(0, way)
        self.assertEqual((tables, places, way), ([[1, 0], [0, 1]], [1, 0], [1, -1, 2]))

    def test_what_is_told_may_be_changed(self):
        cave = Cave(2, [[1, 0], [0, 1]], [1, 0])
        cave.tables()[0][0] = 0
        cave.tables().pop()
        cave.places().append(1)
        cave.places()[0] = 0
        self.assertEqual(cave.tables(), [[1, 0], [0, 1]])
        self.assertEqual(cave.places(), [1, 0])
        self.assertEqual(cave.walk(0, [1]), 1)

    def test_closed_keeps_nothing(self):
        table, places = [[1, None], [None, None]], [0, 1]
        chart = Chart(2, table)
        cave = closed(chart, places)
        told = cave.tables()
        table[0][0] = 0
        places[0] = 1
        self.assertEqual(cave.places(), [0, 1])
        self.assertEqual(cave.tables(), told)
        self.assertEqual(chart.table(), [[1, None], [None, None]])

    def test_tables_that_are_one_list(self):
        table = [1, 0]
        cave = Cave(2, [table, table], [])
        table.reverse()
        self.assertEqual(cave.tables(), [[1, 0], [1, 0]])


if __name__ == "__main__":
    unittest.main()
