"""Points [2] to [7]: ways."""

import inspect
import itertools
import random
import unittest

from chalkcave import ways
from chalkcave.errors import CaveError, NoWay
from chalkcave.ways import cancelled, heart, joined, read_way, shown, times, turned, turning


def is_cancelled(way):
    return all(way[at] != -way[at + 1] for at in range(len(way) - 1))


def cancelled_anyhow(way, chance):
    """The words of [3]: take out opposite neighbours in whatever order."""
    left = list(way)
    while True:
        places = [at for at in range(len(left) - 1) if left[at] == -left[at + 1]]
        if not places:
            return left
        at = chance.choice(places)
        del left[at:at + 2]


def opposite(way):
    return [-way[len(way) - 1 - at] for at in range(len(way))]


def some_way(chance, length, kinds=5):
    letters = [letter for letter in range(-kinds, kinds + 1) if letter != 0]
    return [chance.choice(letters) for at in range(length)]


def all_ways(longest, kinds):
    letters = [letter for letter in range(-kinds, kinds + 1) if letter != 0]
    for length in range(longest + 1):
        for way in itertools.product(letters, repeat=length):
            yield list(way)


class Interface(unittest.TestCase):
    def test_arguments(self):
        told = {
            "cancelled": ["way"], "turned": ["way"], "joined": ["one", "two"], "times": ["way", "many"],
            "heart": ["way"], "turning": ["one", "two"], "shown": ["way"], "read_way": ["text"],
        }
        for name, arguments in told.items():
            with self.subTest(name):
                self.assertEqual(list(inspect.signature(getattr(ways, name)).parameters), arguments)


class Cancelled(unittest.TestCase):
    def test_the_empty_way(self):
        self.assertEqual(cancelled([]), [])

    def test_wholly(self):
        for way in ([1, -1], [-5, 5], [1, 2, -2, -1], [1, -1, 2, -2], [3, -3, -3, 3], [1, 2, -2, 3, -3, -1]):
            with self.subTest(way=way):
                self.assertEqual(cancelled(way), [])

    def test_in_the_middle(self):
        self.assertEqual(cancelled([1, 2, -2, 3]), [1, 3])
        self.assertEqual(cancelled([1, -3, 3, 1]), [1, 1])

    def test_at_the_ends(self):
        self.assertEqual(cancelled([2, -2, 1]), [1])
        self.assertEqual(cancelled([1, 2, -2]), [1])

    def test_in_chains(self):
        self.assertEqual(cancelled([4, 1, 2, 3, -3, -2, -1, 5]), [4, 5])
        self.assertEqual(cancelled([1, 2, -2, -1, 1]), [1])
        self.assertEqual(cancelled([1, -1, 1]), [1])

    def test_first_and_last_letter_are_no_neighbours(self):
        self.assertEqual(cancelled([1, 2, -1]), [1, 2, -1])

    def test_letters_alike_are_not_opposite(self):
        self.assertEqual(cancelled([1, 1, -2, -2]), [1, 1, -2, -2])

    def test_whatever_the_order(self):
        chance = random.Random(3)
        for length in range(40):
            way = some_way(chance, length, 2)
            with self.subTest(way=way):
                self.assertEqual(cancelled(way), cancelled_anyhow(way, chance))

    def test_six_hundred_letters(self):
        self.assertEqual(cancelled([1] * 600), [1] * 600)
        self.assertEqual(cancelled([1] * 300 + [-1] * 300), [])
        self.assertEqual(cancelled([1, -1] * 300), [])
        self.assertEqual(cancelled([2] + [1] * 299 + [-1] * 299 + [3]), [2, 3])
        chance = random.Random(4)
        way = some_way(chance, 600, 1)
        self.assertEqual(cancelled(way), cancelled_anyhow(way, chance))

    def test_somewhat_beyond_the_limits(self):
        self.assertEqual(cancelled([6, 7, -7, -8]), [6, -8])
        self.assertEqual(cancelled([1] * 2000 + [-1] * 1999), [1])


class Turned(unittest.TestCase):
    def test_turned(self):
        self.assertEqual(turned([]), [])
        self.assertEqual(turned([1]), [-1])
        self.assertEqual(turned([1, -2, 3]), [-3, 2, -1])

    def test_as_it_stands(self):
        self.assertEqual(turned([1, -1]), [1, -1])
        self.assertEqual(turned([2, 1, -1, 3]), [-3, 1, -1, -2])

    def test_long(self):
        way = some_way(random.Random(5), 600)
        self.assertEqual(turned(way), opposite(way))
        self.assertEqual(turned(turned(way)), way)


class Joined(unittest.TestCase):
    def test_joined(self):
        self.assertEqual(joined([], []), [])
        self.assertEqual(joined([1], [2]), [1, 2])
        self.assertEqual(joined([1, 2], []), [1, 2])
        self.assertEqual(joined([], [1, 2]), [1, 2])

    def test_where_they_meet(self):
        self.assertEqual(joined([1, 2], [-2, 3]), [1, 3])
        self.assertEqual(joined([1, 2], [-2, -1]), [])

    def test_each_of_them_is_cancelled_too(self):
        self.assertEqual(joined([1, -1, 2], [3, 4, -4]), [2, 3])
        self.assertEqual(joined([1, -1], []), [])

    def test_many(self):
        chance = random.Random(6)
        for turn in range(50):
            one = some_way(chance, chance.randrange(30), 2)
            two = some_way(chance, chance.randrange(30), 2)
            self.assertEqual(joined(one, two), cancelled_anyhow(one + two, chance))

    def test_long(self):
        self.assertEqual(joined([1] * 600, [-1] * 599), [1])
        self.assertEqual(joined([1] * 600, [2] * 600), [1] * 600 + [2] * 600)


class Times(unittest.TestCase):
    def test_nought(self):
        for way in ([], [1], [1, -1], [1, 2, -1]):
            with self.subTest(way=way):
                self.assertEqual(times(way, 0), [])

    def test_once(self):
        self.assertEqual(times([1, 2], 1), [1, 2])
        self.assertEqual(times([1, 2, -2], 1), [1])

    def test_above_nought(self):
        self.assertEqual(times([1, 2], 3), [1, 2, 1, 2, 1, 2])
        self.assertEqual(times([1, 2, -1], 3), [1, 2, 2, 2, -1])

    def test_below_nought(self):
        self.assertEqual(times([1, 2], -1), [-2, -1])
        self.assertEqual(times([1, 2], -2), [-2, -1, -2, -1])
        self.assertEqual(times([1, 2, -1], -3), [1, -2, -2, -2, -1])

    def test_as_joined_again_and_again(self):
        for way in all_ways(4, 2):
            for many in range(-4, 5):
                wanted = []
                for turn in range(abs(many)):
                    wanted = joined(wanted, way if many > 0 else opposite(way))
                self.assertEqual(times(way, many), wanted, (way, many))

    def test_ways_that_cancel_wholly(self):
        for many in (1, -1, 7, 3000, -3000, 10 ** 40, -10 ** 40):
            with self.subTest(many=many):
                self.assertEqual(times([], many), [])
                self.assertEqual(times([1, -1], many), [])
                self.assertEqual(times([1, 2, -2, 3, -3, -1], many), [])

    def test_three_thousand_letters(self):
        self.assertEqual(times([1], 3000), [1] * 3000)
        self.assertEqual(times([1], -3000), [-1] * 3000)
        self.assertEqual(times([1, 2, 3] * 200, 5), [1, 2, 3] * 1000)
        self.assertEqual(times([1, 2, -1], 2998), [1] + [2] * 2998 + [-1])

    def test_long_ways_with_short_hearts(self):
        way = [1] * 299 + [2] + [-1] * 299
        self.assertEqual(times(way, 2402), [1] * 299 + [2] * 2402 + [-1] * 299)
        self.assertEqual(times(way, -2402), [1] * 299 + [-2] * 2402 + [-1] * 299)

    def test_somewhat_beyond_the_limits(self):
        self.assertEqual(times([6], 4000), [6] * 4000)


class Heart(unittest.TestCase):
    def check(self, way):
        told = heart(way)
        self.assertIs(type(told), tuple)
        self.assertEqual(len(told), 2)
        out, ring = told
        self.assertIs(type(out), list)
        self.assertIs(type(ring), list)
        self.assertEqual(out + ring + opposite(out), cancelled(way))
        if ring:
            self.assertNotEqual(ring[0], -ring[-1])
        else:
            self.assertEqual(out, [])

    def test_empty(self):
        self.assertEqual(heart([]), ([], []))
        self.assertEqual(heart([1, -1]), ([], []))
        self.assertEqual(heart([1, 2, -2, -1]), ([], []))

    def test_without_out(self):
        self.assertEqual(heart([1]), ([], [1]))
        self.assertEqual(heart([1, 1]), ([], [1, 1]))
        self.assertEqual(heart([1, 2]), ([], [1, 2]))

    def test_with_out(self):
        self.assertEqual(heart([1, 2, -1]), ([1], [2]))
        self.assertEqual(heart([1, -2, 3, 4, 2, -1]), ([1, -2], [3, 4]))
        self.assertEqual(heart([1, 2, 3, 2, -1]), ([1], [2, 3, 2]))

    def test_of_a_way_that_is_not_cancelled(self):
        self.assertEqual(heart([1, 3, -3, 2, -1]), ([1], [2]))
        self.assertEqual(heart([5, -5, 1, 2]), ([], [1, 2]))

    def test_all_short_ways(self):
        for way in all_ways(5, 2):
            self.check(way)

    def test_long_ways(self):
        self.check([1] * 299 + [2, 2] + [-1] * 299)
        self.check([1] * 300 + [-1] * 300)
        chance = random.Random(7)
        for kinds in (1, 2, 5):
            self.check(some_way(chance, 600, kinds))

    def test_somewhat_beyond_the_limits(self):
        self.check([1] * 1000 + [6] + [-1] * 1000)


class Turning(unittest.TestCase):
    def check(self, one, two):
        """`two` is known to be turned to `one` by some way."""
        told = turning(one, two)
        self.assertIs(type(told), list)
        self.assertTrue(is_cancelled(told))
        self.assertEqual(cancelled(told + two + opposite(told)), cancelled(one))

    def test_of_ways_that_are_empty_or_cancel_to_nothing(self):
        self.check([], [])
        self.check([], [1, -1])
        self.check([1, -1], [])
        self.check([1, 2, -2, -1], [3, -3])

    def test_none_of_an_empty_way_and_another(self):
        self.assertIsNone(turning([], [1]))
        self.assertIsNone(turning([1], []))
        self.assertIsNone(turning([1, -1], [2]))
        self.assertIsNone(turning([1, 2, -1], [3, -3]))

    def test_of_a_way_to_itself(self):
        for way in ([1], [1, 2], [1, 2, -1], [1, 1], [3, -3, 2]):
            with self.subTest(way=way):
                self.check(way, way)

    def test_of_a_heart_begun_at_another_place(self):
        ring = [1, 2, -3, 1, 5]
        for shift in range(5):
            with self.subTest(shift=shift):
                self.check(ring, ring[shift:] + ring[:shift])
                self.check([4] + ring + [-4], [-2, 4] + ring[shift:] + ring[:shift] + [-4, 2])

    def test_of_a_heart_that_repeats(self):
        self.check([1, 2, 1, 2], [2, 1, 2, 1])
        self.check([1, 1, 1], [3, 1, 1, 1, -3])

    def test_none(self):
        for one, two in (
            ([1], [2]), ([1], [-1]), ([1], [1, 1]), ([1, 2], [1, -2]), ([1, 2, 3], [3, 2, 1]),
            ([1, 1, 2, 2], [1, 2, 1, 2]), ([1, 2], [-2, -1]), ([4, 1, -4], [4, 2, -4]),
        ):
            with self.subTest(one=one, two=two):
                self.assertIsNone(turning(one, two))

    def test_all_short_ways(self):
        # Ways of three letters and less that have a turning have one of three letters or less.
        candidates = [way for way in all_ways(3, 2) if is_cancelled(way)]
        for two in all_ways(3, 2):
            reached = {tuple(cancelled(t + two + opposite(t))) for t in candidates}
            for one in all_ways(3, 2):
                if tuple(cancelled(one)) in reached:
                    self.check(one, two)
                else:
                    self.assertIsNone(turning(one, two), (one, two))

    def test_many(self):
        chance = random.Random(8)
        for turn in range(100):
            two = some_way(chance, chance.randrange(20))
            by = some_way(chance, chance.randrange(10))
            self.check(by + two + opposite(by), two)
            self.check(two, by + two + opposite(by))

    def test_long_ways(self):
        ring = [1] * 299 + [2] + [1] * 299 + [3]
        for shift in (1, 300, 599):
            self.check(ring, ring[shift:] + ring[:shift])
        self.assertIsNone(turning(ring, [1] * 298 + [2] + [1] * 300 + [3]))
        self.check([1] * 200 + [2, 3] * 100 + [-1] * 200, [4] * 200 + [3, 2] * 100 + [-4] * 200)

    def test_somewhat_beyond_the_limits(self):
        self.check([6] * 700 + [7], [7] + [6] * 700)


class Shown(unittest.TestCase):
    def test_each_sign(self):
        for letter, sign in zip([1, 2, 3, 4, 5, -1, -2, -3, -4, -5], "abcdeABCDE"):
            with self.subTest(letter=letter):
                self.assertEqual(shown([letter]), sign)

    def test_the_empty_way(self):
        self.assertEqual(shown([]), ".")

    def test_as_it_stands(self):
        self.assertEqual(shown([1, -1]), "aA")
        self.assertEqual(shown([1, 2, -2, -5, 5, 3]), "abBEec")

    def test_long(self):
        self.assertEqual(shown([1, -2] * 300), "aB" * 300)

    def test_somewhat_beyond_the_limits(self):
        self.assertEqual(shown([1] * 900), "a" * 900)
        self.assertIs(type(shown([6, -6, 7])), str)


class ReadWay(unittest.TestCase):
    def test_each_sign(self):
        for letter, sign in zip([1, 2, 3, 4, 5, -1, -2, -3, -4, -5], "abcdeABCDE"):
            with self.subTest(sign=sign):
                self.assertEqual(read_way(sign), [letter])

    def test_the_empty_way(self):
        self.assertEqual(read_way("."), [])

    def test_as_it_stands(self):
        self.assertEqual(read_way("aA"), [1, -1])
        self.assertEqual(read_way("abBEec"), [1, 2, -2, -5, 5, 3])

    def test_what_is_shown_is_read(self):
        chance = random.Random(9)
        for length in list(range(20)) + [600, 900]:
            way = some_way(chance, length)
            self.assertEqual(read_way(shown(way)), way)

    def test_the_empty_text(self):
        with self.assertRaises(NoWay):
            read_way("")

    def test_points_among_letters(self):
        for text in ("..", ".a", "a.", "a.b", "...", "abc."):
            with self.subTest(text=text):
                with self.assertRaises(NoWay):
                    read_way(text)

    def test_blanks_and_row_ends(self):
        for text in (" ", "\n", " a", "a ", "a b", "\na", "a\n", "a\nb", ".\n", "\n.", ". ", " .", "\t", "a\r"):
            with self.subTest(text=text):
                with self.assertRaises(NoWay):
                    read_way(text)

    def test_every_other_sign(self):
        others = [chr(code) for code in range(0x250) if chr(code) not in "abcdeABCDE"]
        for sign in others + ["\u0430", "\uff41", "\u212a", "\U0001f600"]:
            texts = [sign + "a", "a" + sign, "a" + sign + "b"]
            if sign != ".":
                texts.append(sign)
            for text in texts:
                with self.subTest(text=text):
                    with self.assertRaises(NoWay):
                        read_way(text)

    def test_the_refusal_is_a_cave_error(self):
        with self.assertRaises(CaveError):
            read_way("f")


class NothingKept(unittest.TestCase):
    """Point [2], for ways."""

    WAYS = ([], [1], [1, 2], [1, -1], [1, 2, -1], [1, 2, -2, 3])

    def calls(self, way):
        return [
            lambda: cancelled(way),
            lambda: turned(way),
            lambda: joined(way, way),
            lambda: joined(way, []),
            lambda: joined([], way),
            lambda: times(way, 1),
            lambda: times(way, -2),
            lambda: times(way, 0),
            lambda: heart(way)[0],
            lambda: heart(way)[1],
            lambda: turning(way, way),
            lambda: read_way(shown(way)),
        ]

    def test_the_handed_list_stays_and_the_told_one_is_new(self):
        for way in self.WAYS:
            for at, call in enumerate(self.calls(way)):
                with self.subTest(way=way, call=at):
                    before = list(way)
                    told = call()
                    copy = list(told)
                    self.assertIsNot(told, way)
                    self.assertEqual(way, before)
                    told.append(5)
                    told.insert(0, 4)
                    self.assertEqual(way, before)
                    again = call()
                    self.assertIsNot(again, told)
                    self.assertEqual(again, copy)

    def test_changing_the_handed_list_changes_nothing_told(self):
        for way in self.WAYS:
            for at in range(len(self.calls(way))):
                with self.subTest(way=way, call=at):
                    mine = list(way)
                    told = self.calls(mine)[at]()
                    copy = list(told)
                    mine.append(3)
                    mine[0] = 4
                    self.assertEqual(told, copy)

    def test_the_two_lists_of_a_heart_are_not_one(self):
        for way in self.WAYS:
            out, ring = heart(way)
            self.assertIsNot(out, ring)


if __name__ == "__main__":
    unittest.main()
