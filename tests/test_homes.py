"""Points [2], [3] and [16]: home rows, and ways spelled over them."""

import inspect
import itertools
import random
import unittest

from chalkcave import homes as module
from chalkcave.chart import Chart
from chalkcave.errors import NoHome, NoKind
from chalkcave.homes import homes, spelled, unspelled
from chalkcave.ways import cancelled, turned
from tests.plain_charts import plain_home_count, plain_order, plain_step, plain_trace, ring_table, row_table, some_table


def some_charts(seed, turns):
    """Tables of many shapes."""
    chance = random.Random(seed)
    for turn in range(turns):
        yield some_table(chance, chance.randint(1, 5), chance.randint(1, 10), chance.choice([20, 40, 60, 80, 100]))


def way_home(chance, table, length):
    """Some steps from chamber 0 along known passages, and then a shortest way home; not always cancelled."""
    letters = [letter for kind in range(1, len(table[0]) + 1) for letter in (kind, -kind)]
    way = []
    here = 0
    for turn in range(length):
        steps = [letter for letter in letters if plain_step(table, here, letter) is not None]
        if steps:
            way.append(chance.choice(steps))
            here = plain_step(table, here, way[-1])
    reached = {here: []}
    for chamber in plain_order(table, here):
        for letter in letters:
            there = plain_step(table, chamber, letter)
            if there is not None and there not in reached:
                reached[there] = reached[chamber] + [letter]
    return way + reached[0]


def plain_unspelled(rows, word):
    way = []
    for number in word:
        way += rows[number - 1] if number > 0 else [-letter for letter in rows[-number - 1][::-1]]
    return cancelled(way)


class Interface(unittest.TestCase):
    def test_arguments(self):
        told = {"homes": ["chart"], "spelled": ["chart", "way"], "unspelled": ["chart", "word"]}
        for name, arguments in told.items():
            with self.subTest(name):
                self.assertEqual(list(inspect.signature(getattr(module, name)).parameters), arguments)


class HomeCase(unittest.TestCase):
    def chart_of(self, table):
        return Chart(len(table[0]), table)

    def check_rows(self, table):
        """The home rows of a table, after all that is promised of them is looked at."""
        rows = homes(self.chart_of(table))
        self.assertIs(type(rows), list)
        self.assertEqual(len(rows), plain_home_count(table))
        most = 2 * len(plain_order(table, 0)) + 1
        for row in rows:
            self.assertIs(type(row), list)
            self.assertEqual(row, cancelled(row))
            self.assertNotEqual(row, [])
            self.assertLessEqual(len(row), most)
            self.assertEqual(plain_trace(table, 0, row), 0)
        return rows


class Homes(HomeCase):
    def test_none(self):
        for table in ([[None]], [[None] * 5], row_table(2), row_table(50), [[1, 2], [None, None], [None, None]]):
            with self.subTest(table=table[:5]):
                self.assertEqual(self.check_rows(table), [])
                self.assertEqual(homes(self.chart_of(table)), [])

    def test_none_where_only_chambers_that_are_never_met_have_them(self):
        self.assertEqual(self.check_rows([[None], [2], [1]]), [])
        self.assertEqual(self.check_rows([[1, None], [None, None], [2, 2]]), [])

    def test_one_chamber(self):
        self.assertEqual(len(self.check_rows([[0]])), 1)
        self.assertEqual(len(self.check_rows([[0, None, 0]])), 2)
        self.assertEqual(len(self.check_rows([[0] * 5])), 5)

    def test_a_ring(self):
        for size in (1, 2, 3, 4, 5, 20, 21):
            with self.subTest(size=size):
                self.assertIn(self.check_rows(ring_table(size)), ([[1] * size], [[-1] * size]))

    def test_two_passages_beside_each_other(self):
        self.assertIn(self.check_rows([[1, 1], [None, None]]), ([[1, -2]], [[2, -1]]))
        self.assertIn(self.check_rows([[1, None], [None, 0]]), ([[1, 2]], [[-2, -1]]))

    def test_a_ring_at_the_end_of_a_row(self):
        # Here a home row has twice the chambers less one.
        table = [[chamber + 1, None] for chamber in range(9)] + [[None, 9]]
        self.assertIn(self.check_rows(table), [[[1] * 9 + [letter] + [-1] * 9] for letter in (2, -2)])

    def test_a_ring_in_a_hair_and_chambers_never_met(self):
        table = [[1, None], [None, 1], [2, 3], [3, 2]]
        self.assertEqual(len(self.check_rows(table)), 1)

    def test_full(self):
        self.assertEqual(len(self.check_rows([[1, 0], [0, 1]])), 3)
        self.assertEqual(len(self.check_rows([[1] * 5, [0] * 5])), 9)

    def test_many(self):
        for table in some_charts(16, 150):
            self.check_rows(table)

    def test_long_home_rows(self):
        self.assertEqual([len(row) for row in self.check_rows(ring_table(600))], [600])
        table = [[chamber + 1, None] for chamber in range(299)] + [[None, 299]]
        self.assertEqual([len(row) for row in self.check_rows(table)], [599])

    def test_the_most_chambers(self):
        chart = Chart(5, some_table(random.Random(17), 5, 700, 100))
        rows = homes(chart)
        self.assertEqual(len(rows), 2801)
        for row in rows:
            self.assertEqual((row, chart.trace(0, row)), (cancelled(row), 0))

    def test_somewhat_beyond_the_limits(self):
        self.assertIn(homes(Chart(1, ring_table(700))), ([[1] * 700], [[-1] * 700]))
        table = [[chamber + 1] + [chamber] * 4 for chamber in range(699)] + [[None] + [699] * 4]
        self.assertEqual(len(homes(Chart(5, table))), 2800)

    def test_the_same_ones_each_time(self):
        for table in some_charts(18, 40):
            chart = self.chart_of(table)
            rows = homes(chart)
            other = self.chart_of([list(ends) for ends in table])
            self.assertEqual(homes(other), rows)
            chart.trace(0, [1])
            spelled(chart, [])
            unspelled(chart, [])
            self.assertEqual(homes(chart), rows)


class Spelled(HomeCase):
    def check(self, table, way):
        """The word is cancelled and gives the way, over the home rows that are told."""
        chart = self.chart_of(table)
        word = spelled(chart, way)
        self.assertIs(type(word), list)
        self.assertEqual(word, cancelled(word))
        self.assertEqual(plain_unspelled(homes(chart), word), cancelled(way))
        self.assertEqual(unspelled(chart, word), cancelled(way))

    def test_the_empty_way(self):
        for table in ([[None]], [[0]], row_table(3), ring_table(3)):
            self.assertEqual(spelled(self.chart_of(table), []), [])

    def test_ways_that_cancel_to_nothing(self):
        # Also over passages that are not known.
        for table in ([[None, None]], [[0, None]], [[1, None], [None, None]]):
            for way in ([1, -1], [-1, 1], [2, -2], [1, 2, -2, -1]):
                self.assertEqual(spelled(self.chart_of(table), way), [])

    def test_each_home_row_is_spelled_as_itself(self):
        for table in some_charts(19, 60):
            chart = self.chart_of(table)
            for place, row in enumerate(homes(chart)):
                self.assertEqual(spelled(chart, row), [place + 1])
                self.assertEqual(spelled(chart, turned(row)), [-place - 1])

    def test_a_ring(self):
        for size in (1, 4, 5):
            chart = Chart(1, ring_table(size))
            sign = homes(chart)[0][0]
            self.assertEqual(spelled(chart, [1] * size * 3), [sign] * 3)
            self.assertEqual(spelled(chart, [-1] * size * 2), [-sign] * 2)

    def test_one_chamber(self):
        chart = Chart(3, [[0, None, 0]])
        rows = homes(chart)
        for way in ([1], [3], [1, 3, -1, -3], [3, 3, 1, -3], [1, 2, -2, 3], [1, 1, -1, -3]):
            self.check([[0, None, 0]], way)
        self.assertEqual(len(rows), 2)
        self.assertEqual(len(spelled(chart, [1, 2, -2, 3])), 2)
        self.assertEqual(len(spelled(chart, [1, -3, 3, -1])), 0)

    def test_all_short_ways(self):
        for table in ([[1, None], [2, 0], [None, 2]], [[1, 1], [None, None]], [[0, 1], [1, 0]], [[None, 0], [0, None]]):
            chart = self.chart_of(table)
            for length in range(6):
                for letters in itertools.product([1, -1, 2, -2], repeat=length):
                    way = list(letters)
                    if plain_trace(table, 0, way) == 0:
                        self.check(table, way)
                    else:
                        with self.assertRaises(NoHome):
                            spelled(chart, way)

    def test_many(self):
        chance = random.Random(20)
        for table in some_charts(21, 60):
            for turn in range(5):
                self.check(table, way_home(chance, table, chance.randrange(15)))

    def test_long_ways(self):
        chart = Chart(5, some_table(random.Random(22), 5, 700, 100))
        for row in homes(chart)[:3]:
            way = row * (600 // len(row))
            self.assertEqual(unspelled(chart, spelled(chart, way)), cancelled(way))
        self.check(ring_table(600), [1] * 600)
        self.check(ring_table(7), [-1] * 595)
        self.check([[0, None]], [1] * 600)
        self.check([[0, None]], [2, -2] * 300)

    def test_somewhat_beyond_the_limits(self):
        self.check([[0, 0]], [1, 2] * 1000)
        self.check(ring_table(700), [1] * 1400)

    def test_no_kind(self):
        for table in ([[0, 1], [1, 0]], [[None, None]], [[None, 0]]):
            chart = self.chart_of(table)
            for letter in (0, 3, -3, 6, -6, 10 ** 30):
                for way in (
                    [letter], [letter, -letter], [1, letter], [letter, 2], [2, letter, -letter], [1, -1, letter],
                    [1, 2, letter], [2, 2, -letter, letter, -1],
                ):
                    with self.subTest(table=table, way=way):
                        with self.assertRaises(NoKind):
                            spelled(chart, way)

    def test_no_home(self):
        # The ends of these ways are known and not chamber 0, or not known.
        chart = Chart(2, [[1, None], [2, 0], [None, 2]])
        for way in ([1], [1, 1], [-2], [1, 1, 2], [2], [-1], [1, 1, 1], [1, 2, 2], [1, 1, -2, 2], [1, 2, -1]):
            with self.subTest(way=way):
                with self.assertRaises(NoHome):
                    spelled(chart, way)
        with self.assertRaises(NoHome):
            spelled(Chart(1, [[None]]), [1])
        with self.assertRaises(NoHome):
            spelled(Chart(1, row_table(3)), [1, 1])


class Unspelled(HomeCase):
    def test_the_empty_word(self):
        for table in ([[None]], [[0]], row_table(3), ring_table(3)):
            self.assertEqual(unspelled(self.chart_of(table), []), [])

    def test_one_thing(self):
        for table in some_charts(23, 40):
            chart = self.chart_of(table)
            for place, row in enumerate(homes(chart)):
                self.assertEqual(unspelled(chart, [place + 1]), row)
                self.assertEqual(unspelled(chart, [-place - 1]), turned(row))

    def test_words_that_cancel(self):
        chart = Chart(2, [[1, 0], [0, 1]])
        rows = homes(chart)
        for word in ([1, -1], [-3, 3], [1, 2, -2, -1], [1, -1, 2, -2]):
            self.assertEqual(unspelled(chart, word), [])
        self.assertEqual(unspelled(chart, [1, 2, -2]), rows[0])
        self.assertEqual(unspelled(chart, [3, -3, 2]), rows[1])

    def test_many(self):
        chance = random.Random(24)
        for table in some_charts(25, 60):
            chart = self.chart_of(table)
            rows = homes(chart)
            for turn in range(5 if rows else 0):
                word = [chance.choice([-1, 1]) * chance.randint(1, min(len(rows), 3)) for place in range(turn * 2)]
                way = unspelled(chart, word)
                self.assertIs(type(way), list)
                self.assertEqual(way, cancelled(way))
                self.assertEqual(way, plain_unspelled(rows, word))
                self.assertEqual(plain_trace(table, 0, way), 0)
                # For every way that is home there is just one spelling.
                self.assertEqual(spelled(chart, way), cancelled(word))

    def test_home_rows_that_cancel_where_they_meet(self):
        # All home rows lead through the row of chambers 0 to 5.
        table = [[chamber + 1, None, None] for chamber in range(5)] + [[None, 5, 5]]
        chart = self.chart_of(table)
        rows = self.check_rows(table)
        self.assertEqual(len(rows), 2)
        way = unspelled(chart, [1, 2, 1, -2])
        self.assertEqual(len(way), 14)
        self.assertEqual(way, plain_unspelled(rows, [1, 2, 1, -2]))

    def test_long_words(self):
        self.assertEqual(len(unspelled(Chart(1, [[0]]), [1] * 600)), 600)
        table = [[chamber + 1, None] for chamber in range(299)] + [[None, 299]]
        self.assertEqual(unspelled(self.chart_of(table), [1, -1] * 20000 + [1]), homes(self.chart_of(table))[0])
        chart = Chart(1, ring_table(600))
        self.assertEqual(unspelled(chart, [1] * 3000 + [-1] * 2999), homes(chart)[0])
        wide = Chart(5, some_table(random.Random(26), 5, 700, 100))
        word = [2801, -1, 1400, 7, -2800]
        self.assertEqual(spelled(wide, unspelled(wide, word)), word)

    def test_somewhat_beyond_the_limits(self):
        self.assertEqual(len(unspelled(Chart(1, [[0]]), [-1] * 2000)), 2000)
        self.assertEqual(len(unspelled(Chart(1, ring_table(700)), [1, 1])), 1400)

    def test_no_home(self):
        for table, many in (([[None]], 0), (row_table(3), 0), ([[0]], 1), ([[1, 0], [0, 1]], 3), ([[None], [1]], 0)):
            chart = self.chart_of(table)
            for number in (0, many + 1, -many - 1, many + 2, 10 ** 30, -10 ** 30):
                words = [[number], [number, -number], [-number, number, number]]
                if many:
                    words += [[1, number], [number, 1], [1, -1, number], [1, number, -number, -1]]
                for word in words:
                    with self.subTest(table=table, word=word):
                        with self.assertRaises(NoHome):
                            unspelled(chart, word)


class NothingKept(HomeCase):
    """Point [2], for home rows."""

    TABLE = [[1, 0], [0, None], [2, None]]

    def test_the_handed_lists_and_charts_stay(self):
        chart = Chart(2, self.TABLE)
        way = [1, -1, 2, 1, 1]
        word = [1, 2, -2]
        homes(chart)
        spelled(chart, way)
        unspelled(chart, word)
        self.assertEqual((way, word), ([1, -1, 2, 1, 1], [1, 2, -2]))
        self.assertEqual((chart.kinds, chart.table()), (2, self.TABLE))

    def test_the_told_lists_are_new(self):
        chart = Chart(2, self.TABLE)
        way = homes(chart)[0]
        calls = (
            lambda: homes(chart), lambda: homes(chart)[0], lambda: homes(chart)[1], lambda: spelled(chart, way),
            lambda: spelled(chart, []), lambda: unspelled(chart, [1]), lambda: unspelled(chart, [-2]),
            lambda: unspelled(chart, []),
        )
        for place, call in enumerate(calls):
            with self.subTest(call=place):
                told = call()
                copy = list(told)
                told.append(5)
                told.insert(0, 4)
                self.assertEqual(call(), copy)
                self.assertEqual(chart.table(), self.TABLE)

    def test_a_told_home_row_changed(self):
        chart = Chart(2, self.TABLE)
        rows = homes(chart)
        copy = [list(row) for row in rows]
        for row in rows:
            row.clear()
        self.assertEqual(homes(chart), copy)
        self.assertEqual(unspelled(chart, [1]), copy[0])
        self.assertEqual(spelled(chart, copy[1]), [2])

    def test_a_handed_list_is_not_told(self):
        chart = Chart(1, [[0]])
        for given in ([], [1], [-1], [1, 1]):
            self.assertIsNot(spelled(chart, given), given)
            self.assertIsNot(unspelled(chart, given), given)

    def test_what_is_refused_changes_nothing(self):
        chart = Chart(2, self.TABLE)
        rows = homes(chart)
        for call, refusal, given in (
            (spelled, NoKind, [1, -1, 3]), (spelled, NoHome, [1, -1, 1]), (unspelled, NoHome, [1, -1, 3]),
        ):
            copy = list(given)
            with self.assertRaises(refusal):
                call(chart, given)
            self.assertEqual(given, copy)
        self.assertEqual(homes(chart), rows)
        self.assertEqual(chart.table(), self.TABLE)


if __name__ == "__main__":
    unittest.main()
