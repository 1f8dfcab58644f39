"""Points [2] and [15]: charts written and read."""

import inspect
import random
import unittest

from chalkcave import texts
from chalkcave.chart import Chart
from chalkcave.errors import CaveError, NoChart
from chalkcave.texts import read_chart, written
from tests.plain_charts import plain_chart_text, ring_table, some_table

# Texts sign for sign, with the kinds and tables that they write.
PAIRS = [
    ("chart 1 1\n-", 1, [[None]]),
    ("chart 1 1\n0", 1, [[0]]),
    ("chart 2 2\n1 -\n- 0", 2, [[1, None], [None, 0]]),
    ("chart 1 3\n1\n2\n0", 1, [[1], [2], [0]]),
    ("chart 3 1\n- 0 -", 3, [[None, 0, None]]),
    ("chart 5 2\n0 1 - 0 1\n1 0 1 - 0", 5, [[0, 1, None, 0, 1], [1, 0, 1, None, 0]]),
    ("chart 1 11\n10\n" + "-\n" * 9 + "0", 1, [[10]] + [[None]] * 9 + [[0]]),
]


class Interface(unittest.TestCase):
    def test_arguments(self):
        for name, arguments in {"written": ["chart"], "read_chart": ["text"]}.items():
            with self.subTest(name):
                self.assertEqual(list(inspect.signature(getattr(texts, name)).parameters), arguments)


class Written(unittest.TestCase):
    def test_sign_for_sign(self):
        for text, kinds, table in PAIRS:
            with self.subTest(text=text):
                told = written(Chart(kinds, table))
                self.assertIs(type(told), str)
                self.assertEqual(told, text)

    def test_the_most_chambers(self):
        wanted = "chart 1 700\n" + "\n".join([str(chamber) for chamber in range(1, 700)]) + "\n0"
        self.assertEqual(written(Chart(1, ring_table(700))), wanted)
        self.assertEqual(written(Chart(5, [[None] * 5] * 700)), "chart 5 700" + "\n- - - - -" * 700)

    def test_the_handed_chart_stays(self):
        chart = Chart(2, [[1, None], [None, 0]])
        written(chart)
        self.assertEqual((chart.kinds, chart.table()), (2, [[1, None], [None, 0]]))


class Read(unittest.TestCase):
    def check(self, text, kinds, table):
        told = read_chart(text)
        self.assertIs(type(told), Chart)
        self.assertEqual((told.kinds, told.table()), (kinds, table))

    def test_sign_for_sign(self):
        for text, kinds, table in PAIRS:
            with self.subTest(text=text):
                self.check(text, kinds, table)

    def test_what_is_written_is_read(self):
        chance = random.Random(15)
        for turn in range(100):
            kinds = chance.randint(1, 5)
            table = some_table(chance, kinds, chance.randint(1, 120), chance.choice([0, 30, 60, 100]))
            self.check(written(Chart(kinds, table)), kinds, table)

    def test_the_most_chambers(self):
        for share in (0, 50, 100):
            table = some_table(random.Random(share), 5, 700, share)
            self.check(written(Chart(5, table)), 5, table)
        self.check("chart 1 700\n" + "-\n" * 699 + "699", 1, [[None]] * 699 + [[699]])

    def test_each_reading_tells_a_new_chart(self):
        self.assertIsNot(read_chart("chart 1 1\n0"), read_chart("chart 1 1\n0"))


class Refused(unittest.TestCase):
    def refused(self, *told):
        for text in told:
            with self.subTest(text=text[:80]):
                with self.assertRaises(NoChart):
                    read_chart(text)

    def test_the_empty_text(self):
        self.refused("", " ", "\n", "\n\n", "-", "0")

    def test_a_needless_nought(self):
        self.refused("chart 01 1\n-", "chart 1 01\n-", "chart 1 1\n00", "chart 1 2\n01\n-", "chart 1 2\n-\n00")
        self.refused("chart 1 1\n000", "chart 1 001\n-", "chart 1 1\n-0", "chart 1 2\n-1\n-", "chart 1 1\n+0")

    def test_blanks(self):
        self.refused("chart  1 1\n-", "chart 1  1\n-", "chart 2 1\n-  -", "chart 2 1\n0  0", "chart 3 1\n-  - -")
        self.refused(" chart 1 1\n-", "chart 1 1 \n-", "chart 1 1\n -", "chart 1 1\n- ", "chart 2 1\n- - ")
        self.refused("chart 1 2\n-\n -", "chart 1 2\n- \n-", "chart 2 1\n --", "chart 2 1\n-- ", "chart 2 1\n- ")

    def test_row_ends(self):
        self.refused("\nchart 1 1\n-", "chart 1 1\n-\n", "chart 1 1\n\n-", "chart 1 2\n-\n\n-", "chart 1 1\n-\n\n")
        self.refused("chart 1 1\n", "chart 1 1\n\n", "chart 1 2\n-\n", "chart\n1 1\n-", "chart 2 1\n-\n-", "chart 1 1 -")
        self.refused("chart 1 1\r\n-", "chart 1 1\r-", "chart 1 1\n-\r", "chart 1 1\n-\r\n", "chart 2 1\n-\t-")

    def test_rows_too_few_or_too_many(self):
        self.refused("chart 1 1", "chart 1 2\n-", "chart 1 1\n-\n-", "chart 1 3\n1\n0", "chart 1 1\n0\nchart 1 1\n0")
        self.refused("chart 1 700\n" + "\n".join(["-"] * 699), "chart 1 700\n" + "\n".join(["-"] * 701))

    def test_words_too_few_or_too_many(self):
        self.refused("chart 1 1\n- -", "chart 2 1\n-", "chart 2 2\n- -\n-", "chart 5 1\n0 0 0 0", "chart 1 1\n0 -")

    def test_the_head(self):
        self.refused("1 chart 1\n-", "1 1 chart\n-", "chart 1\n-", "chart 1 1 1\n-", "chart\n-", "1 1\n-", "chart - 1\n-")
        self.refused("Chart 1 1\n-", "CHART 1 1\n-", "charts 1 1\n-", "chart1 1\n-", "chart 11\n-", "chart 1 -\n-")
        self.refused("chart 2 1\n-\n-", "chart 1 2\n- -", "chat 1 1\n-", "chart a 1\n-", "chart 1 b\n-", "chart , 1\n-")
        self.refused("chart 1.0 1\n-", "chart +1 1\n-", "chart 1 +1\n-", "chart -1 1\n-", "chart 1 -1\n-")

    def test_kinds_and_sizes_beyond(self):
        self.refused("chart 0 1\n", "chart 0 1\n-", "chart 6 1\n- - - - - -", "chart 10 1\n" + " ".join("-" * 10))
        self.refused("chart 1 0", "chart 1 0\n", "chart 0 0", "chart 0 0\n", "chart 1 0\n-")
        self.refused("chart 1 701" + "\n-" * 701, "chart 1 1000" + "\n-" * 1000)

    def test_signs_that_are_no_figures(self):
        for sign in [chr(code) for code in range(32, 127) if chr(code) not in "%0-"]:
            self.refused("chart 1 1\n" + sign, "chart 1 1\n0" + sign, "chart 1 1\n" + sign + "0")
            if sign != "1":
                self.refused("chart " + sign + " 1\n-", "chart 1 " + sign + "\n-")
        self.refused("chart 1 1\n--", "chart 1 1\n---", "chart 1 1\n_", "chart 1 12\n1_1" + "\n-" * 11, "chart 1 1\n0x0")
        self.refused("chart 1 1\n0-", "chart 1 1\nNone", "chart 1 1\n0.0", "chart 1 20" + "\n1e1" + "\n-" * 19)

    def test_figures_of_other_scripts(self):
        self.refused("chart \u0661 1\n-", "chart 1 \u00b9\n-", "chart 1 1\n\u0660", "chart 1 1\n\uff10", "chart 1 1\n\u2013")

    def test_numbers_of_very_many_figures(self):
        for many in (4, 20, 4299, 4300, 4301, 5000, 15000):
            for figure in "019":
                word = figure * many
                self.refused(f"chart {word} 1\n-", f"chart 1 {word}\n-", f"chart 1 1\n{word}", f"chart 2 1\n- {word}")

    def test_a_table_that_is_no_chart(self):
        self.refused("chart 1 2\n0\n0", "chart 1 1\n1", "chart 1 2\n2\n-", "chart 2 2\n0 1\n1 1", "chart 1 1\n699")
        self.refused("chart 1 700\n" + "\n".join(["-"] * 699 + ["700"]), "chart 1 10\n10" + "\n-" * 9)

    def test_somewhat_beyond_the_limits(self):
        self.refused("chart 1 1\n" * 3000, " " * 30000, "\n" * 30000, "chart 1 1\n%", "chart 1 1\n-" + "\n-" * 20000)

    def test_the_refusal_is_a_cave_error(self):
        with self.assertRaises(CaveError):
            read_chart("chart")

    def test_every_short_change_of_a_text(self):
        for text in ("chart 1 1\n-", "chart 2 2\n1 -\n- 0", "chart 1 3\n1\n2\n0"):
            changed = {text[:at] + text[at + 1:] for at in range(len(text))}
            for sign in "0123-c \n":
                changed |= {text[:at] + sign + text[at:] for at in range(len(text) + 1)}
                changed |= {text[:at] + sign + text[at + 1:] for at in range(len(text))}
            for other in sorted(changed):
                if plain_chart_text(other):
                    self.assertEqual(written(read_chart(other)), other)
                else:
                    self.refused(other)


if __name__ == "__main__":
    unittest.main()
