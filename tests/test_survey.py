"""Points [2], [19] to [22] and [26]: the book's deeds, what is refused, holds, going back and twins."""

import inspect
import random
import unittest

from chalkcave.caves import Cave
from chalkcave.errors import Barred, Full, NoEntry, NoHold, NoKind, NoMark
from chalkcave.survey import Survey
from tests.plain import plain_labels
from tests.plain_books import PlainBook, plain_whole, settled, some_books, standing, tried, whole

WRONG_MARKS = (-1, -2, -24, 24, 25, 10 ** 30, -10 ** 30)


def book_of(kinds, marks):
    book = Survey(kinds)
    for mark in range(marks):
        book.chalk()
    return book


class Interface(unittest.TestCase):
    def test_arguments(self):
        told = {
            "__init__": ["kinds"], "chalk": [], "row": ["a", "kind", "b"], "apart": ["a", "b"], "strike": ["number"],
            "marks": [], "entries": [], "hold": [], "back": ["number"], "twin": [], "chambers": [],
            "same": ["a", "b"], "paper": ["a", "b"], "piece": ["a"], "freest": [], "fits": ["cave"],
            "judge": ["a", "way", "b"], "must_paper": ["a", "way", "b"], "never_paper": ["a", "way", "b"],
            "astray": ["a", "way", "b"], "leading": ["a", "way", "b"],
        }
        for name, arguments in told.items():
            with self.subTest(name):
                self.assertIn(name, vars(Survey))
                self.assertEqual(list(inspect.signature(vars(Survey)[name]).parameters), ["self"] + arguments)

    def test_by_keyword(self):
        book = Survey(kinds=2)
        book.chalk()
        book.chalk()
        self.assertEqual(book.row(a=0, kind=2, b=1), 1)
        self.assertEqual(book.apart(a=0, b=1), 2)
        self.assertEqual(book.strike(number=2), 2)
        self.assertEqual(book.back(number=book.hold()), 1)
        self.assertEqual(book.judge(a=0, way=[2], b=1), "must")


class Model(unittest.TestCase):
    def test_the_quick_joining_is_the_plain_one(self):
        chance = random.Random(9)
        for turn in range(60):
            marks = chance.randint(1, 9)
            rows = [
                (number, chance.randrange(marks), chance.randint(1, 2), chance.randrange(marks))
                for number in range(chance.randrange(9))
            ]
            pairs = [(chance.randrange(marks), chance.randrange(marks)) for turn in range(chance.randrange(3))]
            self.assertEqual(settled(marks, rows, pairs), plain_labels(marks, rows, pairs))


class Made(unittest.TestCase):
    def test_kinds(self):
        for kinds in range(1, 6):
            book = Survey(kinds)
            self.assertEqual(book.kinds, kinds)
            self.assertEqual(book.twin().kinds, kinds)

    def test_no_kind(self):
        for kinds in (0, -1, -5, 6, 7, 10 ** 30, -10 ** 30):
            with self.assertRaises(NoKind):
                Survey(kinds)

    def test_without_marks(self):
        book = Survey(3)
        self.assertEqual(book.marks(), 0)
        self.assertEqual(book.entries(), [])
        self.assertEqual(book.chambers(), [])
        self.assertEqual(book.freest().size(), 1)
        self.assertEqual(book.freest().places(), [])
        self.assertEqual(book.freest().kinds, 3)
        self.assertIs(book.fits(book.freest()), True)


class Deeds(unittest.TestCase):
    def test_chalk(self):
        book = Survey(1)
        for mark in range(24):
            self.assertEqual(book.marks(), mark)
            self.assertEqual(book.chalk(), mark)
        self.assertEqual(book.marks(), 24)
        self.assertEqual(book.chambers(), list(range(24)))

    def test_entries(self):
        book = book_of(3, 4)
        self.assertEqual(book.row(0, 2, 3), 1)
        self.assertEqual(book.apart(0, 1), 2)
        self.assertEqual(book.row(2, 3, 2), 3)
        wanted = [(1, "row", 0, 2, 3), (2, "apart", 0, 1), (3, "row", 2, 3, 2)]
        self.assertEqual(book.entries(), wanted)
        self.assertEqual([type(entry) for entry in book.entries()], [tuple] * 3)

    def test_an_entry_may_stand_twice(self):
        book = book_of(1, 2)
        self.assertEqual([book.row(0, 1, 1), book.row(0, 1, 1), book.apart(0, 1), book.apart(1, 0)], [1, 2, 3, 4])
        self.assertEqual(book.strike(1), 1)
        self.assertEqual(book.judge(0, [1], 1), "must")
        self.assertEqual(book.strike(3), 3)
        self.assertRaises(Barred, book.row, 1, 1, 1)

    def test_strike(self):
        book = book_of(2, 3)
        book.row(0, 1, 1)
        book.row(0, 1, 2)
        self.assertIs(book.same(1, 2), True)
        self.assertEqual(book.strike(2), 2)
        self.assertIs(book.same(1, 2), False)
        self.assertEqual(book.entries(), [(1, "row", 0, 1, 1)])

    def test_numbers_are_not_given_again(self):
        book = book_of(1, 2)
        self.assertEqual(book.row(0, 1, 1), 1)
        book.strike(1)
        self.assertEqual(book.row(0, 1, 1), 2)
        book.strike(2)
        self.assertEqual(book.apart(0, 1), 3)
        self.assertEqual(book.entries(), [(3, "apart", 0, 1)])

    def test_a_struck_oath_bars_nothing(self):
        book = book_of(1, 2)
        book.apart(0, 1)
        book.row(0, 1, 0)
        self.assertRaises(Barred, book.row, 0, 1, 1)
        book.strike(1)
        self.assertEqual(book.row(0, 1, 1), 3)

    def test_a_struck_row_bars_nothing(self):
        book = book_of(1, 3)
        book.row(0, 1, 1)
        book.row(0, 1, 2)
        self.assertRaises(Barred, book.apart, 1, 2)
        book.strike(1)
        self.assertEqual(book.apart(1, 2), 3)

    def test_many_strikings_make_room(self):
        book = book_of(1, 2)
        for number in range(1, 200):
            self.assertEqual(book.row(0, 1, 1), number)
            if number > 39:
                book.strike(number - 39)
        self.assertEqual([entry[0] for entry in book.entries()], list(range(161, 200)))


class Refused(unittest.TestCase):
    def refused(self, refusal, book, name, *arguments):
        """The call is refused with just that class, and all of the book is as it was."""
        ahead = whole(book)
        with self.subTest(refusal=refusal.__name__, name=name, arguments=arguments):
            with self.assertRaises(refusal):
                getattr(book, name)(*arguments)
            self.assertEqual(whole(book), ahead)

    def held_book(self, kinds, marks):
        book = book_of(kinds, marks)
        book.hold()
        if marks > 1:
            book.row(0, 1, 0)
            book.hold()
            book.apart(0, 1)
        return book

    def test_chalk_full(self):
        self.refused(Full, self.held_book(2, 24), "chalk")

    def test_row_no_mark(self):
        for marks in (0, 1, 24):
            book = self.held_book(2, marks)
            for wrong in WRONG_MARKS + (marks,):
                for kind in (1, 0, 3):
                    self.refused(NoMark, book, "row", wrong, kind, 0)
                    self.refused(NoMark, book, "row", 0, kind, wrong)
                    self.refused(NoMark, book, "row", wrong, kind, wrong)

    def test_row_no_kind(self):
        for kinds in range(1, 6):
            book = self.held_book(kinds, 3)
            for kind in (0, -1, -kinds, kinds + 1, 6, 10 ** 30, -10 ** 30):
                self.refused(NoKind, book, "row", 0, kind, 1)

    def test_apart_no_mark(self):
        for marks in (0, 1, 24):
            book = self.held_book(2, marks)
            for wrong in WRONG_MARKS + (marks,):
                self.refused(NoMark, book, "apart", wrong, 0)
                self.refused(NoMark, book, "apart", 0, wrong)
                self.refused(NoMark, book, "apart", wrong, wrong)

    def full_book(self):
        """40 entries stand; a row (0, 1, 1) and an oath for 0 and 0 would be barred."""
        book = self.held_book(2, 3)
        while len(book.entries()) < 40:
            book.apart(1, 0)
        return book

    def test_order_in_a_full_book(self):
        book = self.full_book()
        self.refused(NoMark, book, "row", 3, 9, 0)
        self.refused(NoMark, book, "row", 0, 9, 3)
        self.refused(NoKind, book, "row", 0, 3, 1)
        self.refused(Full, book, "row", 0, 1, 1)
        self.refused(Full, book, "row", 0, 2, 2)
        self.refused(NoMark, book, "apart", 3, 0)
        self.refused(NoMark, book, "apart", 0, 3)
        self.refused(Full, book, "apart", 0, 0)
        self.refused(Full, book, "apart", 0, 2)
        book.strike(20)
        self.refused(Barred, book, "row", 0, 1, 1)
        self.refused(Barred, book, "apart", 0, 0)
        self.assertEqual(book.row(0, 2, 2), 41)
        self.refused(Full, book, "row", 0, 1, 1)

    def test_row_barred(self):
        book = book_of(2, 4)
        book.apart(0, 1)
        book.row(2, 1, 0)
        self.refused(Barred, book, "row", 2, 1, 1)
        book.row(1, 2, 3)
        self.refused(Barred, book, "row", 0, 2, 3)
        self.assertEqual(book.row(0, 2, 2), 4)

    def test_row_barred_through_others(self):
        book = book_of(2, 6)
        book.apart(4, 5)
        book.row(0, 1, 2)
        book.row(2, 2, 4)
        book.row(1, 1, 3)
        book.row(3, 2, 5)
        book.row(0, 2, 0)
        self.refused(Barred, book, "row", 0, 2, 1)
        self.assertEqual(book.row(1, 2, 1), 7)

    def test_apart_barred(self):
        book = book_of(2, 4)
        for mark in range(4):
            self.refused(Barred, book, "apart", mark, mark)
        book.row(0, 1, 1)
        book.row(0, 1, 2)
        self.refused(Barred, book, "apart", 1, 2)
        self.refused(Barred, book, "apart", 2, 1)
        self.assertEqual(book.apart(0, 1), 3)

    def test_strike_no_entry(self):
        book = self.held_book(2, 3)
        for number in (0, -1, 3, 4, 10 ** 30, -10 ** 30):
            self.refused(NoEntry, book, "strike", number)
        book.strike(1)
        self.refused(NoEntry, book, "strike", 1)
        self.refused(NoEntry, Survey(1), "strike", 1)

    def test_back_no_hold(self):
        book = self.held_book(2, 3)
        for number in (0, -1, -2, 3, 4, 10 ** 30, -10 ** 30):
            self.refused(NoHold, book, "back", number)
        book.back(1)
        self.refused(NoHold, book, "back", 2)
        self.refused(NoHold, Survey(1), "back", 1)
        self.refused(NoHold, Survey(1), "back", 0)

    def test_questions_no_mark(self):
        for marks in (0, 1, 24):
            book = self.held_book(2, marks)
            for wrong in WRONG_MARKS + (marks,):
                for name in ("same", "paper"):
                    self.refused(NoMark, book, name, wrong, 0)
                    self.refused(NoMark, book, name, 0, wrong)
                    self.refused(NoMark, book, name, wrong, wrong)
                self.refused(NoMark, book, "piece", wrong)

    def test_ways_no_mark_then_no_kind(self):
        book = self.held_book(2, 3)
        for name in ("judge", "must_paper", "never_paper", "astray", "leading"):
            for wrong in WRONG_MARKS + (3,):
                for way in ([], [1], [3], [0]):
                    self.refused(NoMark, book, name, wrong, way, 0)
                    self.refused(NoMark, book, name, 0, way, wrong)
            for way in ([3], [-3], [0], [1, 0], [3, -3], [1, 5, -5, -1], [10 ** 30], [1] * 599 + [3], [0] * 600):
                self.refused(NoKind, book, name, 0, way, 0)
                self.refused(NoKind, book, name, 0, way, 2)

    def test_ways_in_a_book_without_marks(self):
        for name in ("judge", "must_paper", "never_paper", "astray", "leading"):
            self.refused(NoMark, Survey(1), name, 0, [9], 0)


class Holds(unittest.TestCase):
    def test_back(self):
        book = book_of(1, 2)
        self.assertEqual(book.hold(), 1)
        book.row(0, 1, 1)
        self.assertEqual(book.hold(), 2)
        book.chalk()
        book.apart(0, 2)
        self.assertEqual(book.back(2), 2)
        self.assertEqual(standing(book), (2, [(1, "row", 0, 1, 1)], 2))
        self.assertEqual(book.back(1), 1)
        self.assertEqual(standing(book), (2, [], 1))
        self.assertRaises(NoHold, book.back, 2)
        self.assertEqual(book.hold(), 2)

    def test_back_again(self):
        book = book_of(1, 1)
        book.hold()
        for turn in range(3):
            self.assertEqual(book.chalk(), 1)
            self.assertEqual(book.row(0, 1, 1), 1)
            self.assertEqual(book.back(1), 1)
            self.assertEqual(standing(book), (1, [], 1))

    def test_a_hold_of_a_book_without_marks(self):
        book = Survey(1)
        book.hold()
        book.chalk()
        book.row(0, 1, 0)
        book.back(1)
        self.assertEqual(standing(book), (0, [], 1))

    def test_the_number_behind_the_greatest_that_is_left(self):
        book = Survey(1)
        self.assertEqual([book.hold() for turn in range(4)], [1, 2, 3, 4])
        book.back(4)
        self.assertEqual(book.hold(), 5)
        book.back(2)
        self.assertEqual([book.hold(), book.hold()], [3, 4])

    def test_strikings_are_undone(self):
        book = book_of(1, 2)
        book.row(0, 1, 1)
        book.apart(0, 1)
        book.hold()
        book.strike(1)
        book.strike(2)
        self.assertEqual(book.row(1, 1, 1), 3)
        book.back(1)
        self.assertEqual(standing(book), (2, [(1, "row", 0, 1, 1), (2, "apart", 0, 1)], 3))
        self.assertRaises(Barred, book.row, 1, 1, 1)

    def test_a_hold_keeps_that_a_number_was_struck(self):
        book = book_of(1, 1)
        book.row(0, 1, 0)
        book.strike(1)
        book.hold()
        self.assertEqual(book.row(0, 1, 0), 2)
        book.back(1)
        self.assertEqual(book.row(0, 1, 0), 2)

    def test_many_holds(self):
        book = book_of(1, 1)
        for number in range(1, 400):
            self.assertEqual(book.hold(), number)
            book.row(0, 1, 0)
            book.strike(number)
        self.assertEqual(book.back(200), 200)
        self.assertEqual(book.row(0, 1, 0), 200)


class Twins(unittest.TestCase):
    def test_a_deed_in_one_is_not_seen_in_the_other(self):
        book = book_of(1, 2)
        book.row(0, 1, 1)
        book.hold()
        twin = book.twin()
        self.assertIs(type(twin), Survey)
        ahead = whole(book)
        self.assertEqual(whole(twin), ahead)
        for deed in (
            lambda one: one.chalk(), lambda one: one.row(1, 1, 0), lambda one: one.apart(0, 1),
            lambda one: one.strike(1), lambda one: one.hold(), lambda one: one.back(1),
        ):
            one, other = book.twin(), book.twin()
            deed(one)
            self.assertEqual(whole(other), ahead)
            self.assertEqual(whole(book), ahead)
        twin.hold()
        twin.back(1)
        twin.chalk()
        self.assertEqual(whole(book), ahead)
        book.chalk()
        book.chalk()
        self.assertEqual(twin.marks(), 3)

    def test_holds_too(self):
        book = book_of(1, 1)
        book.hold()
        book.chalk()
        book.hold()
        twin = book.twin()
        book.back(1)
        self.assertEqual(twin.back(2), 2)
        self.assertEqual(twin.marks(), 2)
        self.assertEqual(twin.hold(), 3)
        self.assertEqual(book.hold(), 2)

    def test_refusals_of_a_twin(self):
        book = book_of(2, 24)
        twin = book.twin()
        self.assertRaises(Full, twin.chalk)
        self.assertRaises(NoKind, twin.row, 0, 3, 0)


class ByModel(unittest.TestCase):
    """Books held against the plain one over many deeds, refused ones too."""

    def deed(self, chance, plain):
        """The name of a deed and its arguments; some of them are wrong."""
        def mark():
            if chance.randrange(8) == 0:
                return chance.randrange(-1, plain.marks + 1)
            return chance.randrange(max(1, min(plain.marks, 6)))

        name = chance.choice(["chalk"] * 2 + ["row"] * 6 + ["apart"] * 4 + ["strike"] * 3 + ["hold", "back"])
        if name == "row":
            return name, (mark(), chance.randint(1, plain.kinds + (chance.randrange(8) == 0)), mark())
        if name == "apart":
            return name, (mark(), mark())
        if name == "strike":
            return name, (chance.randint(0, plain.coming),)
        if name == "back":
            return name, (chance.randint(0, len(plain.holds) + 1),)
        return name, ()

    def check_deeds(self, seed, turns):
        chance = random.Random(seed)
        kinds = chance.randint(1, 3)
        pairs = [(Survey(kinds), PlainBook(kinds))]
        seen = []
        for turn in range(turns):
            book, plain = chance.choice(pairs)
            name, arguments = self.deed(chance, plain)
            told = tried(getattr(book, name), *arguments)
            self.assertEqual(told, getattr(plain, name)(*arguments), (name, arguments))
            seen.append(told)
            if chance.randrange(25) == 0 and len(pairs) < 4:
                pairs.append((book.twin(), plain.twin()))
            if turn % 10 == 0:
                for book, plain in pairs:
                    self.assertEqual(whole(book), plain_whole(plain))
                    self.assertEqual(book.chambers(), plain.chambers())
        return seen

    def test_deeds(self):
        seen = []
        for seed in range(40):
            seen += self.check_deeds(seed, 150)
        for name in ("NoMark", "NoKind", "NoEntry", "NoHold", "Barred"):
            self.assertGreater(seen.count(name), 20, name)

    def test_a_full_book(self):
        chance = random.Random(40)
        for turn in range(20):
            book, plain = some_books(chance, Survey(5), 5, 24, 60, 15)
            self.assertEqual(whole(book), plain_whole(plain))
            self.assertLessEqual(len(book.entries()), 40)
            self.assertEqual(tried(book.chalk), "Full")
            for number in [entry[0] for entry in plain.entries][::3]:
                self.assertEqual(book.strike(number), plain.strike(number))
            self.assertEqual(whole(book), plain_whole(plain))


class Chambers(unittest.TestCase):
    def test_counted_by_their_least_marks(self):
        book = book_of(2, 5)
        self.assertEqual(book.chambers(), [0, 1, 2, 3, 4])
        book.row(0, 1, 4)
        book.row(0, 1, 1)
        self.assertEqual(book.chambers(), [0, 1, 2, 3, 1])
        book.row(2, 2, 1)
        book.row(0, 2, 4)
        self.assertEqual(book.chambers(), [0, 1, 0, 2, 1])

    def test_by_model(self):
        chance = random.Random(21)
        for turn in range(100):
            kinds, marks = chance.randint(1, 4), chance.randint(1, 24)
            book, plain = some_books(chance, Survey(kinds), kinds, marks, chance.randrange(41), chance.randrange(8))
            chambers = plain.chambers()
            told = book.chambers()
            self.assertEqual(told, chambers)
            self.assertIs(type(told), list)
            for a in range(marks):
                b = chance.randrange(marks)
                self.assertIs(book.same(a, b), chambers[a] == chambers[b])
                self.assertIs(book.same(a, a), True)


class Kept(unittest.TestCase):
    def test_entries_that_are_told_may_be_changed(self):
        book = book_of(1, 2)
        book.row(0, 1, 1)
        book.hold()
        book.apart(0, 1)
        twin = book.twin()
        book.entries().clear()
        book.entries().append((9, "row", 0, 1, 0))
        wanted = [(1, "row", 0, 1, 1), (2, "apart", 0, 1)]
        self.assertEqual(book.entries(), wanted)
        self.assertEqual(twin.entries(), wanted)
        twin.entries().pop()
        book.back(1)
        book.entries().pop()
        self.assertEqual(book.entries(), wanted[:1])
        book.back(1)
        self.assertEqual(book.entries(), wanted[:1])
        self.assertEqual(twin.entries(), wanted)

    def test_entries_told_ahead_stay_as_they_were(self):
        book = book_of(1, 2)
        book.row(0, 1, 1)
        told = book.entries()
        book.row(1, 1, 0)
        book.strike(1)
        self.assertEqual(told, [(1, "row", 0, 1, 1)])

    def test_other_lists_that_are_told_may_be_changed(self):
        book = book_of(2, 4)
        book.row(0, 1, 1)
        book.row(0, 1, 2)
        book.apart(0, 3)
        for tell in (
            book.chambers, lambda: book.paper(1, 2), lambda: book.must_paper(0, [1], 2),
            lambda: book.never_paper(0, [2, -2], 3)[1], lambda: book.piece(0).table(),
            lambda: book.freest().tables(), lambda: book.freest().places(),
            lambda: book.astray(0, [2], 0).tables(), lambda: book.leading(0, [2], 0).places(),
        ):
            ahead = tell()
            wanted = list(ahead)
            ahead.append(7)
            ahead.reverse()
            self.assertEqual(tell(), wanted)
        self.assertEqual(whole(book), [
            (4, [(1, "row", 0, 1, 1), (2, "row", 0, 1, 2), (3, "apart", 0, 3)], 4),
        ])

    def test_ways_are_not_changed_or_kept(self):
        book = book_of(2, 2)
        book.row(0, 1, 1)
        way = [1, 2, -2]
        for name in ("judge", "must_paper", "never_paper", "astray", "leading"):
            getattr(book, name)(0, way, 1)
            self.assertEqual(way, [1, 2, -2])
        cave = book.astray(0, [2], 1)
        tables = cave.tables()
        way.clear()
        self.assertEqual(cave.tables(), tables)

    def test_a_cave_is_not_changed(self):
        book = book_of(1, 1)
        cave = Cave(1, [[0]], [0])
        self.assertIs(book.fits(cave), True)
        self.assertEqual((cave.tables(), cave.places()), ([[0]], [0]))


if __name__ == "__main__":
    unittest.main()
