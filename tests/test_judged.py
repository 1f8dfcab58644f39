"""Points [20] to [25]: papers, pieces, caves that fit, and ways that are judged."""

import itertools
import random
import unittest

from chalkcave.caves import Cave
from chalkcave.chart import Chart
from chalkcave.homes import homes
from chalkcave.papers import joins
from chalkcave.survey import Survey
from chalkcave.ways import turned
from tests.plain_books import behind_paper, fitting, plain_trail, some_books, walked, way_along
from tests.plain_charts import plain_numbered, plain_trace


def some_way(chance, kinds, length):
    return [chance.choice([-1, 1]) * chance.randint(1, kinds) for turn in range(length)]


def way_that_cancels(chance, kinds, length):
    """A way that cancels to the empty one, of about so many letters, nested and side by side."""
    way = []
    while len(way) + 2 <= length:
        at = chance.randint(0, len(way))
        half = some_way(chance, kinds, chance.randint(1, max(1, min((length - len(way)) // 2, length // 4))))
        way = way[:at] + half + turned(half) + way[at:]
    return way


def random_books(seed, turns, most_marks=24, most_rows=40, most_oaths=10):
    chance = random.Random(seed)
    for turn in range(turns):
        kinds, marks = chance.randint(1, 4), chance.randint(1, most_marks)
        rows, oaths = chance.randint(0, min(most_rows, 2 * marks)), chance.randint(0, most_oaths)
        book, plain = some_books(chance, Survey(kinds), kinds, marks, rows, oaths)
        # Strikings leave numbers out.
        for entry in plain.entries[::chance.randint(3, 9)]:
            assert book.strike(entry[0]) == plain.strike(entry[0])
        yield chance, book, plain


class JudgedCase(unittest.TestCase):
    def check_cave(self, plain, cave):
        self.assertIs(type(cave), Cave)
        for table in cave.tables():
            self.assertEqual(sorted(table), list(range(cave.size())))
        self.assertTrue(fitting(plain, cave.kinds, cave.tables(), cave.places()))

    def check_paper(self, paper, marks, rows, pairs, a, b):
        self.assertIs(type(paper), list)
        for step in paper:
            self.assertIs(type(step), tuple)
        labels = behind_paper(marks, rows, pairs, paper)
        self.assertIsNotNone(labels)
        self.assertEqual(labels[a], labels[b])
        self.assertTrue(joins(marks, rows, pairs, paper, a, b))

    def check_way(self, book, plain, a, way, b):
        """Hold all five calls of a way against the plain book; how it is judged."""
        judged = book.judge(a, way, b)
        self.assertEqual(judged, plain.judge(a, way, b))
        trail, end = plain_trail(plain.marks, a, way)
        marks, rows = plain.marks + len(way), plain.rows() + trail
        must = book.must_paper(a, way, b)
        never = book.never_paper(a, way, b)
        astray, leading = book.astray(a, way, b), book.leading(a, way, b)
        self.assertEqual(must is not None, judged == "must")
        self.assertEqual(astray is None, judged == "must")
        self.assertEqual(never is not None, judged == "never")
        self.assertEqual(leading is None, judged == "never")
        if must is not None:
            self.check_paper(must, marks, rows, [], end, b)
        if never is not None:
            self.assertIs(type(never), tuple)
            number, paper = never
            oaths = {entry[0]: entry[1:] for entry in plain.oaths()}
            self.assertIn(number, oaths)
            self.check_paper(paper, marks, rows, [(end, b)], *oaths[number])
        if astray is not None:
            self.check_led(book, plain, astray, a, way, b, False)
        if leading is not None:
            self.check_led(book, plain, leading, a, way, b, True)
        return judged

    def check_led(self, book, plain, cave, a, way, b, wanted):
        self.check_cave(plain, cave)
        self.assertIs(book.fits(cave), True)
        self.assertLessEqual(cave.size(), plain.marks + len(way))
        places = cave.places()
        self.assertEqual(walked(cave.tables(), places[a], way) == places[b], wanted)


class Papers(JudgedCase):
    def test_small(self):
        book = Survey(1)
        for mark in range(4):
            book.chalk()
        book.row(0, 1, 1)
        book.row(0, 1, 2)
        self.assertIsNone(book.paper(0, 1))
        self.assertIn(book.paper(1, 2), ([(1, 2, 1)], [(2, 1, 1)]))
        self.check_paper(book.paper(3, 3), 4, [(1, 0, 1, 1), (2, 0, 1, 2)], [], 3, 3)
        self.assertIsNotNone(book.paper(0, 0))

    def test_struck_rows_are_in_no_paper(self):
        book = Survey(1)
        for mark in range(3):
            book.chalk()
        book.row(0, 1, 1)
        book.row(0, 1, 2)
        book.row(0, 1, 2)
        book.strike(2)
        self.check_paper(book.paper(1, 2), 3, [(1, 0, 1, 1), (3, 0, 1, 2)], [], 1, 2)

    def test_by_model(self):
        told = 0
        for chance, book, plain in random_books(10, 80):
            chambers = plain.chambers()
            for a in range(plain.marks):
                for b in range(plain.marks):
                    paper = book.paper(a, b)
                    self.assertEqual(paper is not None, chambers[a] == chambers[b])
                    if paper is not None and a != b:
                        self.check_paper(paper, plain.marks, plain.rows(), [], a, b)
                        told += 1
        self.assertGreater(told, 500)


class Pieces(JudgedCase):
    def test_small(self):
        book = Survey(2)
        for mark in range(5):
            book.chalk()
        book.row(0, 1, 1)
        book.row(2, 2, 1)
        book.row(3, 1, 3)
        self.assertEqual(book.piece(0).table(), [[1, None], [None, None], [None, 1]])
        self.assertEqual(book.piece(1).table(), [[None, None], [0, None], [None, 0]])
        self.assertEqual(book.piece(3).table(), [[0, None]])
        self.assertEqual(book.piece(4).table(), [[None, None]])
        self.assertEqual(book.piece(4).kinds, 2)

    def test_by_model(self):
        for chance, book, plain in random_books(25, 80):
            chambers, table = plain.chambers(), plain.table()
            for a in range(plain.marks):
                piece = book.piece(a)
                self.assertIs(type(piece), Chart)
                self.assertEqual(piece.kinds, plain.kinds)
                self.assertEqual(piece.table(), plain_numbered(table, chambers[a]))

    def test_home_just_where_it_is_must(self):
        at_home = 0
        for chance, book, plain in random_books(26, 60, most_marks=8):
            for a in range(plain.marks):
                piece = book.piece(a)
                ways = homes(piece)[:4] + [some_way(chance, plain.kinds, length) for length in range(6)]
                ways.append(way_that_cancels(chance, plain.kinds, 12))
                for way in ways:
                    home = plain_trace(piece.table(), 0, way) == 0
                    self.assertEqual(book.judge(a, way, a) == "must", home)
                    at_home += home
        self.assertGreater(at_home, 300)


class Fitting(JudgedCase):
    def test_freest(self):
        for chance, book, plain in random_books(24, 120):
            cave = book.freest()
            self.check_cave(plain, cave)
            self.assertIs(book.fits(cave), True)
            chambers = plain.chambers()
            self.assertEqual(cave.size(), max(chambers) + 1)
            self.assertEqual(len(set(cave.places())), max(chambers) + 1)
            for a, b in itertools.combinations(range(plain.marks), 2):
                self.assertEqual(cave.places()[a] == cave.places()[b], chambers[a] == chambers[b])

    def test_fits_small(self):
        book = Survey(2)
        self.assertIs(book.fits(Cave(2, [[0], [0]], [])), True)
        self.assertIs(book.fits(Cave(1, [[0]], [])), False)
        self.assertIs(book.fits(Cave(3, [[0], [0], [0]], [])), False)
        self.assertIs(book.fits(Cave(2, [[0], [0]], [0])), False)
        book.chalk()
        book.chalk()
        self.assertIs(book.fits(Cave(2, [[0], [0]], [0, 0])), True)
        self.assertIs(book.fits(Cave(2, [[0], [0]], [0])), False)
        self.assertIs(book.fits(Cave(2, [[0], [0]], [0, 0, 0])), False)
        book.row(0, 1, 1)
        self.assertIs(book.fits(Cave(2, [[0], [0]], [0, 0])), True)
        self.assertIs(book.fits(Cave(2, [[1, 0], [0, 1]], [0, 1])), True)
        self.assertIs(book.fits(Cave(2, [[0, 1], [1, 0]], [0, 1])), False)
        self.assertIs(book.fits(Cave(2, [[1, 2, 0], [0, 1, 2]], [1, 0])), False)
        book.apart(0, 1)
        self.assertIs(book.fits(Cave(2, [[0], [0]], [0, 0])), False)
        self.assertIs(book.fits(Cave(2, [[1, 0], [0, 1]], [0, 1])), True)
        book.strike(2)
        self.assertIs(book.fits(Cave(2, [[0], [0]], [0, 0])), True)

    def test_fits_by_model(self):
        seen = {True: 0, False: 0}
        for chance, book, plain in random_books(20, 150, most_marks=6, most_rows=5, most_oaths=2):
            for turn in range(20):
                kinds = plain.kinds if chance.randrange(9) else chance.randint(1, 5)
                size = chance.randint(1, 4)
                tables = [chance.sample(range(size), size) for kind in range(kinds)]
                marks = plain.marks + (chance.randrange(9) == 0) - (chance.randrange(9) == 0)
                places = [chance.randrange(size) for mark in range(marks)]
                wanted = fitting(plain, kinds, tables, places)
                self.assertIs(book.fits(Cave(kinds, tables, places)), wanted)
                seen[wanted] += 1
        self.assertGreater(min(seen.values()), 200)

    def test_a_freest_cave_that_is_shifted_by_one(self):
        for chance, book, plain in random_books(22, 60):
            cave = book.freest()
            for kind in range(plain.kinds):
                tables = cave.tables()
                tables[kind] = tables[kind][1:] + tables[kind][:1]
                wanted = fitting(plain, plain.kinds, tables, cave.places())
                self.assertIs(book.fits(Cave(plain.kinds, tables, cave.places())), wanted)


class AllSmallCaves(unittest.TestCase):
    """What is told of every cave that fits, held against every cave of up to three chambers."""

    def every_cave(self, kinds, marks):
        for size in (1, 2, 3):
            turnings = [list(order) for order in itertools.permutations(range(size))]
            for tables in itertools.product(turnings, repeat=kinds):
                for places in itertools.product(range(size), repeat=marks):
                    yield list(tables), list(places)

    def check_book(self, chance, kinds, marks):
        book, plain = some_books(chance, Survey(kinds), kinds, marks, chance.randrange(5), chance.randrange(3))
        caves = [(tables, places) for tables, places in self.every_cave(kinds, marks)
                 if fitting(plain, kinds, tables, places)]
        for a, b in itertools.product(range(marks), repeat=2):
            if book.same(a, b):
                self.assertTrue(all(places[a] == places[b] for tables, places in caves))
            for length in range(5):
                way = some_way(chance, kinds, length)
                led = [walked(tables, places[a], way) == places[b] for tables, places in caves]
                judged = book.judge(a, way, b)
                if judged == "must":
                    self.assertTrue(all(led))
                if judged == "never":
                    self.assertFalse(any(led))
                if True in led and False in led:
                    self.assertEqual(judged, "open")

    def test_one_kind(self):
        chance = random.Random(1)
        for turn in range(60):
            self.check_book(chance, 1, chance.randint(1, 4))

    def test_two_kinds(self):
        chance = random.Random(2)
        for turn in range(30):
            self.check_book(chance, 2, chance.randint(1, 3))


class Judged(JudgedCase):
    def test_small(self):
        book = Survey(2)
        for mark in range(3):
            book.chalk()
        book.row(0, 1, 1)
        book.apart(0, 1)
        self.assertEqual(book.judge(0, [1], 1), "must")
        self.assertEqual(book.judge(1, [-1], 0), "must")
        self.assertEqual(book.judge(0, [1], 0), "never")
        self.assertEqual(book.judge(0, [-1], 0), "never")
        self.assertEqual(book.judge(0, [1], 2), "open")
        self.assertEqual(book.judge(0, [2], 0), "open")
        self.assertEqual(book.judge(0, [1, 1], 0), "open")
        self.assertEqual(book.judge(0, [2, -2, 1], 1), "must")
        self.assertEqual(book.judge(0, [2, -2], 1), "never")

    def test_the_empty_way(self):
        book = Survey(1)
        for mark in range(4):
            book.chalk()
        book.row(0, 1, 1)
        book.row(0, 1, 2)
        book.apart(1, 3)
        self.assertEqual(book.judge(1, [], 2), "must")
        self.assertEqual(book.judge(3, [], 3), "must")
        self.assertEqual(book.judge(2, [], 3), "never")
        self.assertEqual(book.judge(0, [], 3), "open")
        self.assertEqual(book.must_paper(1, [], 2), book.paper(1, 2))
        self.assertEqual(book.must_paper(3, [], 3) is not None, True)
        number, paper = book.never_paper(2, [], 3)
        self.assertEqual(number, 3)
        self.check_paper(paper, 4, [(1, 0, 1, 1), (2, 0, 1, 2)], [(2, 3)], 1, 3)

    def test_the_trail_is_laid_as_it_stands(self):
        book = Survey(1)
        book.chalk()
        paper = book.must_paper(0, [1, -1], 0)
        self.assertIn(paper, ([(-1, -2, -1)], [(-2, -1, -1)]))
        self.assertEqual(book.must_paper(0, [], 0), [])

    def test_a_way_from_a_full_book(self):
        chance = random.Random(3)
        book, plain = some_books(chance, Survey(5), 5, 24, 45, 20)
        while len(book.entries()) < 40:
            entry = plain.entries[0]
            name, arguments = entry[1], entry[2:]
            self.assertEqual(getattr(book, name)(*arguments), getattr(plain, name)(*arguments))
        for turn in range(40):
            a, b = chance.randrange(24), chance.randrange(24)
            self.check_way(book, plain, a, some_way(chance, 5, chance.randrange(8)), b)

    def test_short_ways_by_model(self):
        seen = []
        for chance, book, plain in random_books(23, 150, most_marks=12, most_rows=20):
            for turn in range(12):
                a, b = chance.randrange(plain.marks), chance.randrange(plain.marks)
                length = chance.randrange(9)
                way = chance.choice([
                    some_way(chance, plain.kinds, length), way_along(chance, plain, a, length)[0],
                    way_that_cancels(chance, plain.kinds, length),
                ])
                seen.append(self.check_way(book, plain, a, way, b))
        for judged in ("must", "never", "open"):
            self.assertGreater(seen.count(judged), 150, judged)

    def marks_of_all_sorts(self, plain, chamber):
        """Marks in a chamber, and marks that an oath keeps out of it, and others."""
        chambers = plain.chambers()
        inside = [mark for mark in range(plain.marks) if chambers[mark] == chamber]
        sworn = [b for number, a, b in plain.oaths() if chambers[a] == chamber]
        sworn += [a for number, a, b in plain.oaths() if chambers[b] == chamber]
        others = [mark for mark in range(plain.marks) if mark not in inside + sworn]
        return inside[:1] + sworn[:1] + others[:1]

    def test_long_ways_by_model(self):
        seen = []
        for chance, book, plain in random_books(600, 25):
            a = chance.randrange(plain.marks)
            length = chance.choice([50, 300, 599, 600])
            along, chamber = way_along(chance, plain, a, length)
            for b in self.marks_of_all_sorts(plain, chamber):
                seen.append(self.check_way(book, plain, a, along, b))
            seen.append(self.check_way(book, plain, a, some_way(chance, plain.kinds, length), a))
        for judged in ("must", "never", "open"):
            self.assertGreater(seen.count(judged), 4, judged)

    def test_long_ways_that_cancel(self):
        seen = []
        for chance, book, plain in random_books(601, 25):
            a = chance.randrange(plain.marks)
            empty = way_that_cancels(chance, plain.kinds, 600)
            along, chamber = way_along(chance, plain, a, 40)
            part = way_that_cancels(chance, plain.kinds, 560)
            at = chance.randint(0, len(along))
            mixed = along[:at] + part + along[at:]
            for way, end in ((empty, plain.chambers()[a]), (mixed, chamber)):
                for b in self.marks_of_all_sorts(plain, end):
                    seen.append(self.check_way(book, plain, a, way, b))
        for judged in ("must", "never", "open"):
            self.assertGreater(seen.count(judged), 4, judged)

    def test_there_and_back(self):
        book = Survey(2)
        book.chalk()
        book.chalk()
        book.apart(0, 1)
        out = [1, 2] * 150
        self.assertEqual(book.judge(0, out + turned(out), 0), "must")
        self.assertEqual(book.judge(0, out + turned(out), 1), "never")
        self.assertEqual(book.judge(0, out, 0), "open")

    def test_as_many_chambers_as_can_be(self):
        """24 marks in chambers of their own and a way of 600 letters over new ones."""
        chance = random.Random(700)
        book, plain = some_books(chance, Survey(5), 5, 24, 0, 0)
        for way in ([1, 2] * 300, [5] * 600, [1] * 599, [1, 2, -1, -2] * 150):
            self.assertEqual(self.check_way(book, plain, 3, way, 7), "open")
            self.assertEqual(self.check_way(book, plain, 3, way, 3), "open")

    def test_somewhat_beyond_the_limit(self):
        book = Survey(1)
        book.chalk()
        for length in (601, 650):
            self.assertEqual(book.judge(0, [1] * length, 0), "open")
            cave = book.astray(0, [1] * length, 0)
            self.assertNotEqual(cave.walk(cave.stands(0), [1] * length), cave.stands(0))

    def test_rings_and_oaths(self):
        """A ring that must close: the oath tells which ways around are never."""
        for size in (2, 3, 5, 24):
            book = Survey(1)
            for mark in range(size):
                book.chalk()
            for mark in range(size):
                book.row(mark, 1, (mark + 1) % size)
            for letters in range(3 * size):
                self.assertEqual(book.judge(0, [1] * letters, letters % size), "must")
                self.assertEqual(book.judge(0, [1] * letters, (letters + 1) % size), "open")
            book.apart(0, size // 2)
            self.assertEqual(book.judge(0, [-1] * size, size // 2), "never")
            self.assertEqual(book.judge(0, [1], 0), "never")


if __name__ == "__main__":
    unittest.main()
