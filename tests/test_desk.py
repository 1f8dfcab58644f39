"""Point [28]: the desk's answers, rows of no form, and refusals."""

import inspect
import random
import unittest

from chalkcave.desk import Desk
from chalkcave.errors import CaveError, NoKind
from chalkcave.homes import homes
from chalkcave.numbering import core
from chalkcave.survey import Survey
from chalkcave.texts import written
from chalkcave.ways import read_way, shown
from tests.plain_charts import plain_core

NO_LINE = "refused NoLine"


def answers(desk, *lines):
    return [desk.say(line) for line in lines]


def desk_of(kinds, marks, *lines):
    desk = Desk(kinds)
    for mark in range(marks):
        assert desk.say("chalk") == f"mark {mark}"
    for line in lines:
        assert not desk.say(line).startswith("refused"), line
    return desk


class Interface(unittest.TestCase):
    def test_arguments(self):
        self.assertEqual(list(inspect.signature(vars(Desk)["__init__"]).parameters), ["self", "kinds"])
        self.assertEqual(list(inspect.signature(vars(Desk)["say"]).parameters), ["self", "line"])

    def test_by_keyword(self):
        self.assertEqual(Desk(kinds=1).say(line="chalk"), "mark 0")

    def test_kinds(self):
        for kinds in range(1, 6):
            self.assertEqual(Desk(kinds).say("chambers"), "none")
        for kinds in (0, -1, 6, 7, 10 ** 30, -10 ** 30):
            with self.assertRaises(NoKind):
                Desk(kinds)


class Forms(unittest.TestCase):
    def test_chalk(self):
        desk = Desk(1)
        self.assertEqual([desk.say("chalk") for mark in range(25)], [f"mark {n}" for n in range(24)] + ["refused Full"])

    def test_row_and_apart(self):
        desk = desk_of(2, 3)
        told = answers(desk, "row 0 1 2", "apart 0 1", "row 1 2 1")
        self.assertEqual(told, ["entry 1", "entry 2", "entry 3"])

    def test_strike(self):
        desk = desk_of(2, 3, "row 0 1 1", "row 0 1 2")
        told = answers(desk, "same 1 2", "strike 2", "same 1 2", "strike 2", "row 0 1 2")
        self.assertEqual(told, ["same", "struck 2", "unlike", "refused NoEntry", "entry 3"])

    def test_hold_and_back(self):
        desk = desk_of(1, 1)
        told = answers(desk, "hold", "row 0 1 0", "hold", "back 1", "back 2", "back 1", "row 0 1 0", "hold", "back 2")
        wanted = ["hold 1", "entry 1", "hold 2", "back 1", "refused NoHold", "back 1", "entry 1", "hold 2", "back 2"]
        self.assertEqual(told, wanted)

    def test_same(self):
        desk = desk_of(1, 3, "row 0 1 1", "row 0 1 2")
        self.assertEqual(answers(desk, "same 1 2", "same 0 1", "same 0 0"), ["same", "unlike", "same"])

    def test_judge(self):
        desk = desk_of(2, 2, "row 0 1 1", "apart 0 1")
        told = answers(desk, "judge 0 a 1", "judge 0 . 0", "judge 0 . 1", "judge 0 b 0", "judge 1 A 0", "judge 0 bBa 1")
        self.assertEqual(told, ["must", "must", "never", "open", "must", "must"])

    def test_judge_of_a_long_way(self):
        desk = desk_of(1, 1, "row 0 1 0")
        self.assertEqual(desk.say("judge 0 " + "a" * 590 + " 0"), "must")
        self.assertEqual(desk_of(1, 1).say("judge 0 " + "aA" * 295 + " 0"), "must")
        self.assertEqual(desk_of(1, 1).say("judge 0 " + "a" * 590 + " 0"), "open")

    def test_chambers(self):
        desk = Desk(1)
        self.assertEqual(desk.say("chambers"), "none")
        self.assertEqual(answers(desk, "chalk", "chambers"), ["mark 0", "0"])
        self.assertEqual(answers(desk, "chalk", "chalk", "chambers"), ["mark 1", "mark 2", "0 1 2"])
        self.assertEqual(answers(desk, "row 1 1 0", "row 1 1 2", "chambers"), ["entry 1", "entry 2", "0 1 0"])

    def test_homes(self):
        desk = desk_of(2, 2)
        self.assertEqual(desk.say("homes 0"), "none")
        desk.say("row 0 2 0")
        self.assertIn(desk.say("homes 0"), ("b", "B"))
        desk.say("row 0 1 1")
        desk.say("row 1 1 0")
        told = desk.say("homes 0").split(" ")
        self.assertEqual(len(told), 2)
        self.assertEqual(sorted(word.lower() for word in told), ["aa", "b"])
        self.assertEqual(desk_of(2, 3, "row 0 1 0").say("homes 1"), "none")

    def test_core(self):
        desk = desk_of(2, 3, "row 0 1 1")
        self.assertEqual(desk.say("core 0"), "chart 2 1\n- -")
        self.assertEqual(answers(desk, "row 1 1 0", "row 1 2 2"), ["entry 2", "entry 3"])
        self.assertEqual(desk.say("core 0"), "chart 2 2\n1 -\n0 -")
        self.assertEqual(desk.say("core 2"), "chart 2 3\n- -\n2 0\n1 -")

    def test_numbers_of_more_figures(self):
        desk = desk_of(1, 24)
        self.assertEqual(answers(desk, "row 23 1 10", "apart 10 23"), ["entry 1", "entry 2"])
        for number in range(3, 1203):
            self.assertEqual(desk.say("row 23 1 10"), f"entry {number}")
            self.assertEqual(desk.say(f"strike {number}"), f"struck {number}")
        self.assertEqual([desk.say("hold") for number in range(1, 12)][-1], "hold 11")
        self.assertEqual(desk.say("back 11"), "back 11")


class NoForm(unittest.TestCase):
    def check(self, *lines):
        """Each line is of no form, and changes nothing."""
        for line in lines:
            with self.subTest(line):
                desk = desk_of(2, 3, "row 0 1 1", "hold", "apart 0 2")
                self.assertEqual(desk.say(line), NO_LINE)
                told = answers(desk, "chambers", "chalk", "row 0 2 2", "hold")
                self.assertEqual(told, ["0 1 2", "mark 3", "entry 3", "hold 2"])

    GOOD = (
        "chalk", "row 0 1 1", "apart 0 1", "strike 1", "hold", "back 1", "same 0 1", "judge 0 a 1", "chambers",
        "homes 0", "core 0",
    )

    def test_the_forms_themselves_are_none_of_these(self):
        for line in self.GOOD:
            self.assertFalse(desk_of(2, 3, "row 0 1 1", "hold", "apart 0 2").say(line).startswith("refused"), line)

    def test_no_words(self):
        self.check("", " ", "  ", "   ")

    def test_blanks_too_many(self):
        for line in self.GOOD:
            self.check(" " + line, line + " ", " " + line + " ", "  " + line, line + "  ")
            words = line.split(" ")
            for at in range(1, len(words)):
                self.check(" ".join(words[:at]) + "  " + " ".join(words[at:]))

    def test_blanks_too_few(self):
        for line in self.GOOD:
            words = line.split(" ")
            for at in range(1, len(words)):
                self.check(" ".join(words[:at]) + " ".join(words[at:]))

    def test_a_word_more_or_less(self):
        for line in self.GOOD:
            words = line.split(" ")
            self.check(line + " 0", line + " 0 0", line + " a", line + " .", line + " " + line, "0 " + line)
            for at in range(len(words)):
                self.check(" ".join(words[:at] + words[at + 1:]))

    def test_other_words(self):
        for line in self.GOOD:
            word, blank, rest = line.partition(" ")
            for other in (word.upper(), word.title(), word + "s", word[:-1], "un" + word, word[::-1], "", "dig", "0"):
                self.check(other + blank + rest)

    def test_numbers(self):
        wrong = (
            "00", "01", "007", "0000", "0001", "10000", "12345", "00000", "99999", "1" * 300, "-1", "-0", "+1", "1.0",
            "1,", "1_0", "0x1", "a", ".", "-", "1a", "a1", "one", "1e1", "'1'",
        )
        for line in self.GOOD:
            words = line.split(" ")
            for at in range(1, len(words)):
                if words[at].isdigit():
                    for number in wrong:
                        self.check(" ".join(words[:at] + [number] + words[at + 1:]))

    def test_judge_without_a_way(self):
        self.check("judge 0 1", "judge 0  1", "judge 0 a b 1", "judge 0 a a 1", "judge", "judge 0 a", "judge a 1")

    def test_a_row_of_no_form_is_not_read(self):
        self.check("judge 0 x 01", "judge 00 x 0", "judge 99999 x 0", "judge -1 . 0", "judge 0 xyz", "row 9 9 09")

    def test_strange_signs(self):
        self.check("~", "#", "chalk!", "chalk;", "chalk,hold", "row 0,1,1", "row (0) (1) (1)", "none", "same", "mark 0")


class Refusals(unittest.TestCase):
    def check(self, wanted, desk, *lines):
        for line in lines:
            with self.subTest(line):
                self.assertEqual(desk.say(line), f"refused {wanted}")

    def test_no_mark(self):
        desk = desk_of(2, 3)
        self.check(
            "NoMark", desk, "row 3 1 0", "row 0 1 3", "row 9999 9 0", "row 0 0 9999", "apart 3 0", "apart 0 3",
            "same 0 3", "same 3 3", "judge 3 a 0", "judge 0 a 3", "judge 3 e 0", "homes 3", "homes 9999", "core 3",
        )
        self.check("NoMark", Desk(1), "same 0 0", "homes 0", "core 0", "judge 0 . 0", "row 0 1 0", "apart 0 0")

    def test_no_kind(self):
        desk = desk_of(2, 3)
        self.check(
            "NoKind", desk, "row 0 0 0", "row 0 3 1", "row 0 9999 1", "judge 0 c 0", "judge 0 aC 0", "judge 0 cC 0",
            "judge 2 eE 2",
        )

    def test_no_way(self):
        desk = desk_of(2, 3)
        self.check(
            "NoWay", desk, "judge 0 f 0", "judge 0 1 0", "judge 0 .. 0", "judge 0 a. 0", "judge 0 .a 0", "judge 0 - 0",
            "judge 0 ab-c 0", "judge 0 None 0", "judge 0 ~ 0", "judge 0 0 0",
        )

    def test_the_way_is_read_first(self):
        desk = desk_of(2, 3)
        self.check("NoWay", desk, "judge 3 f 0", "judge 0 f 3", "judge 9999 cf 9999", "judge 0 cf 0")
        self.check("NoWay", Desk(1), "judge 0 x 0")

    def test_no_entry(self):
        desk = desk_of(2, 3, "row 0 1 1", "strike 1")
        self.check("NoEntry", desk, "strike 0", "strike 1", "strike 2", "strike 9999")

    def test_no_hold(self):
        self.check("NoHold", desk_of(2, 3), "back 0", "back 1", "back 9999")
        self.check("NoHold", desk_of(2, 3, "hold"), "back 0", "back 2")

    def test_barred(self):
        desk = desk_of(2, 3, "row 0 1 0", "apart 0 1")
        self.check("Barred", desk, "row 0 1 1", "apart 0 0", "apart 2 2")

    def test_full(self):
        desk = desk_of(2, 24, "row 0 1 0", "apart 0 1")
        self.check("Full", desk, "chalk")
        for number in range(3, 41):
            self.assertEqual(desk.say("apart 0 1"), f"entry {number}")
        self.check("Full", desk, "row 0 1 1", "row 0 2 2", "apart 0 0", "apart 0 2", "chalk")
        self.check("NoKind", desk, "row 0 3 1")
        self.check("NoMark", desk, "row 24 3 1", "apart 0 24")

    def test_a_refusal_changes_nothing(self):
        refused = (
            "row 3 1 0", "row 0 3 0", "row 0 1 2", "apart 0 0", "apart 0 9", "strike 9", "strike 0", "back 0", "back 9",
            "same 0 9", "judge 0 x 0", "judge 9 a 0", "judge 0 c 0", "homes 9", "core 9", "nothing", "",
        )
        asked = ("chambers", "core 0", "homes 1", "judge 0 a 1", "same 0 1")
        desk = desk_of(2, 3, "hold", "row 0 1 1", "apart 1 2", "hold")
        ahead = answers(desk, *asked)
        for line in refused:
            self.assertTrue(desk.say(line).startswith("refused "), line)
            self.assertEqual(answers(desk, *asked), ahead)
        told = answers(desk, "chalk", "row 0 2 0", "hold", "back 2", "chalk", "back 1", "apart 0 1")
        self.assertEqual(told, ["mark 3", "entry 3", "hold 3", "back 2", "mark 3", "back 1", "entry 1"])


class ByBook(unittest.TestCase):
    """Each answer is what a book tells when the same is done with it."""

    def told(self, book, words):
        """The answer of a book, for words of a right form."""
        things = [int(word) if word.isdigit() else word for word in words[1:]]
        name = words[0]
        try:
            if name == "judge":
                return book.judge(things[0], read_way(words[2]), things[2])
            if name == "homes":
                return " ".join(shown(way) for way in homes(book.piece(things[0]))) or "none"
            if name == "core":
                return written(core(book.piece(things[0])))
            if name == "chambers":
                return " ".join(str(chamber) for chamber in book.chambers()) or "none"
            if name == "same":
                return "same" if book.same(*things) else "unlike"
            head = {"chalk": "mark", "row": "entry", "apart": "entry", "strike": "struck"}.get(name, name)
            return f"{head} {getattr(book, name)(*things)}"
        except CaveError as refusal:
            return f"refused {type(refusal).__name__}"

    def line(self, chance, book):
        def mark():
            return str(chance.randrange(max(1, min(book.marks(), 7)) + (chance.randrange(6) == 0)))

        way = "".join(chance.choice("aAbBcC"[:2 * book.kinds]) for turn in range(chance.randrange(6))) or "."
        if chance.randrange(10) == 0:
            way += chance.choice(["x", ".", "E", "d"])
        return chance.choice([
            "chalk", "hold", "chambers", f"row {mark()} {chance.randint(1, book.kinds)} {mark()}",
            f"row {mark()} {chance.randint(0, book.kinds + 1)} {mark()}", f"apart {mark()} {mark()}",
            f"apart {mark()} {mark()}", f"strike {chance.randrange(30)}", f"back {chance.randrange(6)}",
            f"same {mark()} {mark()}", f"judge {mark()} {way} {mark()}", f"judge {mark()} {way} {mark()}",
            f"homes {mark()}", f"core {mark()}",
        ])

    def test_many(self):
        seen = []
        for seed in range(60):
            chance = random.Random(seed)
            kinds = chance.randint(1, 3)
            desk, book = Desk(kinds), Survey(kinds)
            for turn in range(120):
                line = self.line(chance, book)
                told = desk.say(line)
                self.assertIs(type(told), str)
                self.assertEqual(told, self.told(book, line.split(" ")), line)
                seen.append(told.split(" ")[-1] if told.startswith("refused") else told)
        for word in ("NoMark", "NoKind", "NoWay", "NoEntry", "NoHold", "Barred", "must", "never", "open", "same"):
            self.assertGreater(seen.count(word), 20, word)

    def test_two_desks_have_books_of_their_own(self):
        one, two = Desk(1), Desk(1)
        self.assertEqual(answers(one, "chalk", "chalk", "row 0 1 1"), ["mark 0", "mark 1", "entry 1"])
        self.assertEqual(answers(two, "chambers", "chalk", "row 0 1 0"), ["none", "mark 0", "entry 1"])
        self.assertEqual(one.say("chambers"), "0 1")

    def test_core_by_the_plain_one(self):
        desk = desk_of(1, 4, "row 0 1 1", "row 1 1 2", "row 2 1 0", "row 3 1 3")
        table = plain_core([[1], [2], [0]])
        self.assertEqual(desk.say("core 0"), "chart 1 3\n" + "\n".join(str(ends[0]) for ends in table))
        self.assertEqual(desk.say("core 3"), "chart 1 1\n0")


if __name__ == "__main__":
    unittest.main()
