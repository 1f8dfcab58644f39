"""Points [2], [13] and [14]: charts numbered from a base, and cores."""

import inspect
import random
import unittest

from chalkcave import numbering
from chalkcave.chart import Chart
from chalkcave.errors import NoChamber
from chalkcave.numbering import core, numbered
from tests.plain_charts import plain_core, plain_numbered, ring_table, row_table, some_table


class Interface(unittest.TestCase):
    def test_arguments(self):
        for name, arguments in {"numbered": ["chart", "base"], "core": ["chart"]}.items():
            with self.subTest(name):
                self.assertEqual(list(inspect.signature(getattr(numbering, name)).parameters), arguments)


class ChartCase(unittest.TestCase):
    def told(self, chart, kinds, table):
        self.assertIs(type(chart), Chart)
        self.assertEqual(chart.kinds, kinds)
        self.assertEqual(chart.table(), table)


class Numbered(ChartCase):
    def check(self, table, base, wanted):
        self.told(numbered(Chart(len(table[0]), table), base), len(table[0]), wanted)

    def test_one_chamber(self):
        self.check([[None]], 0, [[None]])
        self.check([[0, None]], 0, [[0, None]])

    def test_already_numbered(self):
        self.check([[1, 2], [3, None], [2, None], [None, None]], 0, [[1, 2], [3, None], [2, None], [None, None]])
        self.check([[1], [0]], 0, [[1], [0]])

    def test_a_ring(self):
        # Chamber 3 lies behind the base, so it gets number 2.
        self.check([[1], [2], [3], [0]], 0, [[1], [3], [0], [2]])

    def test_kinds_in_their_order(self):
        # Kind 1 leads to chamber 2 and kind 2 to chamber 1.
        self.check([[2, 1], [None, None], [None, None]], 0, [[1, 2], [None, None], [None, None]])

    def test_along_ahead_of_back(self):
        # Kind 1 leads from chamber 0 to 2 and from 1 to 0.
        self.check([[2], [0], [None]], 0, [[1], [None], [0]])

    def test_back_ahead_of_the_next_kind(self):
        # Kind 1 leads from chamber 2 to 0, kind 2 from 0 to 1.
        self.check([[None, 1], [None, None], [0, None]], 0, [[None, 2], [0, None], [None, None]])

    def test_five_kinds_along_and_back(self):
        # Chamber 0 has the ten others around it, the kinds told backward.
        table = [[None] * 5 for chamber in range(11)]
        for place in range(5):
            table[0][place] = 10 - 2 * place
            table[9 - 2 * place][place] = 0
        wanted = [[None] * 5 for chamber in range(11)]
        for place in range(5):
            wanted[0][place] = 2 * place + 1
            wanted[2 * place + 2][place] = 0
        self.check(table, 0, wanted)

    def test_chamber_by_chamber(self):
        # All around chamber 0 comes ahead of what lies further on.
        table = [[1, 3], [2, None], [None, None], [None, None]]
        self.check(table, 0, [[1, 2], [3, None], [None, None], [None, None]])

    def test_in_the_order_of_the_new_numbers(self):
        # Chamber 2 gets number 1, so what lies at it comes ahead of what lies at chamber 1.
        table = [[2, 1], [3, None], [4, None], [None, None], [None, None]]
        self.check(table, 0, [[1, 2], [3, None], [4, None], [None, None], [None, None]])

    def test_chambers_never_met(self):
        self.check([[None], [0], [None]], 0, [[None], [0]])
        self.check([[None], [2], [1]], 0, [[None]])
        self.check([[None, 0], [2, 1], [1, 2]], 0, [[None, 0]])

    def test_another_base(self):
        self.check([[None], [2], [1]], 1, [[1], [0]])
        self.check([[1], [2], [None]], 1, [[1], [None], [0]])
        self.check([[1], [2], [None]], 2, [[None], [0], [1]])
        self.check([[None], [0], [None]], 2, [[None]])

    def test_the_base_is_known_to_itself(self):
        self.check([[1, None], [None, 1]], 1, [[None, 0], [0, None]])

    def test_the_most_chambers(self):
        self.check(row_table(700), 0, row_table(700))
        self.check(row_table(700), 699, [[None]] + [[chamber] for chamber in range(699)])
        backward = [[None]] + [[chamber] for chamber in range(699)]
        self.check(backward, 699, row_table(700))
        told = numbered(Chart(1, ring_table(700)), 350)
        # Along and back by turns: 1 lies ahead of the base, 2 behind it, 3 ahead of 1 ..
        self.assertEqual([told.step(chamber, 1) for chamber in (0, 2, 1, 4, 3)], [1, 0, 3, 2, 5])

    def test_the_most_passages(self):
        table = some_table(random.Random(3), 5, 700, 100)
        once = numbered(Chart(5, table), 0)
        self.assertEqual((once.size(), once.full()), (700, True))
        self.told(numbered(once, 0), 5, once.table())

    def test_many(self):
        chance = random.Random(4)
        for turn in range(150):
            kinds = chance.randint(1, 5)
            table = some_table(chance, kinds, chance.randint(1, 12), chance.choice([10, 30, 60, 100]))
            for base in range(len(table)):
                self.check(table, base, plain_numbered(table, base))

    def test_no_chamber(self):
        for size in (1, 3):
            chart = Chart(1, row_table(size))
            for base in (-1, -2, -3, -4, size, size + 1, 700, 10 ** 30, -10 ** 30):
                with self.subTest(size=size, base=base):
                    with self.assertRaises(NoChamber):
                        numbered(chart, base)


class Core(ChartCase):
    def check(self, table, wanted):
        self.told(core(Chart(len(table[0]), table)), len(table[0]), wanted)

    def test_one_chamber(self):
        self.check([[None]], [[None]])
        self.check([[0]], [[0]])
        self.check([[None, 0]], [[None, 0]])

    def test_a_hair_of_one_chamber(self):
        self.check([[0, 1], [None, None]], [[0, None]])
        self.check([[0, None], [None, 0]], [[0, None]])

    def test_a_hair_of_several_chambers(self):
        self.check([[0, 1], [2, None], [None, None], [None, 2]], [[0, None]])

    def test_a_hair_that_leaves_another_one(self):
        # From chamber 0 to 1, and from 1 to 2 and 3 and from 3 on to 4.
        table = [[0, 1], [2, 3], [None, None], [4, None], [None, None]]
        self.check(table, [[0, None]])

    def test_a_hair_at_a_chamber_other_than_0(self):
        # Chambers 0 and 1 make a ring by kind 1, chamber 2 hangs at 1.
        self.check([[1, None], [0, 2], [None, None]], [[1, None], [0, None]])

    def test_one_long_row(self):
        for size in (2, 3, 700):
            self.check(row_table(size), [[None]])
        # Chamber 0 in the middle.
        self.check([[1], [None], [0]], [[None]])

    def test_a_passage_back_into_its_chamber_counts_twice(self):
        self.check([[1, None], [None, 1]], [[1, None], [None, 1]])
        self.check([[1, None], [2, None], [None, 2]], [[1, None], [2, None], [None, 2]])

    def test_a_hair_behind_such_a_chamber(self):
        self.check([[1, None], [2, 1], [None, None]], [[1, None], [None, 1]])

    def test_chamber_0_is_never_taken_out(self):
        # Chamber 0 hangs at a ring of 1 and 2, and has just one passage.
        self.check([[None, 1], [2, None], [1, None]], [[None, 1], [2, None], [1, None]])
        # And at the end of a row of two.
        self.check(
            [[None, 1], [None, 2], [3, None], [2, None]],
            [[None, 1], [None, 2], [3, None], [2, None]],
        )

    def test_two_passages_beside_each_other_are_no_hair(self):
        self.check([[1, 1], [None, None]], [[1, 1], [None, None]])
        self.check([[1, None], [None, 0]], [[1, None], [None, 0]])

    def test_two_rings_and_what_is_between_them(self):
        table = [[0, 1], [2, None], [None, 3], [3, None]]
        self.check(table, table)

    def test_what_is_left_is_numbered_from_0(self):
        # Chambers 1 and 2 are hairs of chamber 0, which chambers 3 and 4 make a ring with.
        table = [[1, 4], [None, None], [0, None], [None, 0], [None, 3]]
        self.check(table, [[None, 1], [None, 2], [None, 0]])

    def test_chambers_never_met_are_left_out(self):
        self.check([[0], [2], [1]], [[0]])
        self.check([[None], [2], [1]], [[None]])
        self.check([[None, None], [2, 1], [1, 2]], [[None, None]])

    def test_of_a_core(self):
        chance = random.Random(5)
        for turn in range(30):
            once = core(Chart(3, some_table(chance, 3, 10, 40)))
            self.told(core(once), 3, once.table())

    def test_full_charts_have_no_hairs(self):
        table = some_table(random.Random(6), 5, 700, 100)
        chart = numbered(Chart(5, table), 0)
        self.told(core(chart), 5, chart.table())

    def test_the_most_chambers(self):
        self.check(ring_table(700), numbered(Chart(1, ring_table(700)), 0).table())
        # A row of 699 chambers with a ring at its far end, and one with the ring at chamber 0.
        far = [[chamber + 1, None] for chamber in range(699)] + [[None, 699]]
        self.check(far, far)
        near = [[chamber + 1, None] for chamber in range(699)] + [[None, None]]
        near[0][1] = 0
        self.check(near, [[None, 0]])

    def test_many(self):
        chance = random.Random(7)
        for turn in range(400):
            kinds = chance.randint(1, 5)
            table = some_table(chance, kinds, chance.randint(1, 12), chance.choice([10, 20, 30, 40, 60]))
            self.check(table, plain_core(table))


class NothingKept(ChartCase):
    """Point [2], for numbered charts and cores."""

    TABLE = [[0, 2], [None, None], [None, None], [3, None]]

    def test_the_handed_chart_stays_and_the_told_one_is_new(self):
        for call in (lambda chart: numbered(chart, 0), lambda chart: numbered(chart, 2), core):
            chart = Chart(2, self.TABLE)
            told = call(chart)
            self.assertIsNot(told, chart)
            self.told(chart, 2, self.TABLE)
            table = told.table()
            again = call(chart)
            self.assertIsNot(again, told)
            self.told(again, 2, table)

    def test_a_chart_that_is_numbered_already_is_told_anew(self):
        chart = Chart(1, [[0]])
        self.assertIsNot(numbered(chart, 0), chart)
        self.assertIsNot(core(chart), chart)

    def test_a_refused_call_changes_nothing(self):
        chart = Chart(2, self.TABLE)
        with self.assertRaises(NoChamber):
            numbered(chart, 4)
        self.told(chart, 2, self.TABLE)


if __name__ == "__main__":
    unittest.main()
