"""Points 25 and 26, with points 2, 3 and 4 for them: ontheline.nearest."""

import random
import time
import unittest
from itertools import product

from by_words_trees import all_on_line, nearest_by_words, nearest_judged_by_words, pairs_by_words
from ontheline.nearest import nearest, nearest_judged
from samples import (
    LONGEST, NO_RANKINGS, ODD_THINGS, bent_lists, check_own, falls_by_words, frozen, inner_lists, numbers_in, orders,
    refused)

TEN = list(range(10))
LONG_LINE = [5, 0, 9, 2, 7, 1, 8, 3, 6, 4]

LINE = [3, 1, 0, 4]
RANKING = [3, 4, 1, 0]
# By the sums of point 25: 4 stands behind 1 and 0 in each ranking that falls and has 3 on top.
TABLE = [[0, 0, 0, 2], [0, 0, 1], [0, 0], [0]]
RIGHT = (2, [3, 1, 0, 4], TABLE)


def set_in(i, j, number):
    """The right answer with another number for the stretch from place i to j."""
    table = [list(row) for row in TABLE]
    table[i][j - i] = number
    return (*RIGHT[:2], table)


def bent_tables(table):
    """Things that are a table bent in one place: some of them have the form of a table still."""
    things = ODD_THINGS + [table[:-1], table + [[]], table + table[-1:], tuple(table), [table], table[::-1], table[1:]]
    for i, row in enumerate(table):
        for other in (None, (), [], 7, "", tuple(row), row[:-1], row + [0], row[1:], [row], row[::-1]):
            things.append(table[:i] + [other] + table[i + 1:])
        for k, number in enumerate(row):
            for other in (None, True, False, "", "0", (), [], [number], (number,), number - 1, number + 1,
                          number - 10 ** 40, number + 10 ** 40, -number):
                things.append(table[:i] + [row[:k] + [other] + row[k + 1:]] + table[i + 1:])
    return things


def bent_answers(answer, line):
    """Things that are what nearest tells bent in one place: some of them are right still."""
    number, other, table = answer
    things = ODD_THINGS + [answer[:-1], answer[1:], answer + (None,), answer + answer[-1:], list(answer), (answer,)]
    things += [(some, other, table) for some in
               (None, True, False, "", str(number), (number,), [number], number - 1, number + 1, -number, 10 ** 50)]
    things += [(number, some, table) for some in bent_lists(other, line) + orders(line)]
    return things + [(number, other, some) for some in bent_tables(table)]


def moved(chance, ranking, many):
    """A ranking in which neighbours were exchanged so often."""
    told = list(ranking)
    for _ in range(many if len(told) > 1 else 0):
        at = chance.randrange(1, len(told))
        told[at - 1], told[at] = told[at], told[at - 1]
    return told


class Nearest(unittest.TestCase):

    def assert_nearest(self, line, ranking):
        """What is told is let by, and no ranking that falls is nearer; its number is told on."""
        told = nearest(line, ranking)
        self.assertIsNone(nearest_judged_by_words(line, ranking, told), (line, ranking, told))
        self.assertIsNone(nearest_judged(line, ranking, told), (line, ranking, told))
        self.assertEqual({type(number) for number in numbers_in(told)}, {int})
        self.assertEqual(told[0], nearest_by_words(line, ranking))
        self.assertGreaterEqual(told[2][0][-1], told[0])
        return told[0]

    def test_ordinary(self):
        self.assertEqual(self.assert_nearest(LINE, RANKING), 2)
        self.assertEqual(self.assert_nearest([0, 1, 2], [0, 2, 1]), 1)
        self.assertEqual(self.assert_nearest([0, 1, 2], [1, 2, 0]), 0)
        self.assertEqual(self.assert_nearest([0, 1, 2, 3], [0, 3, 1, 2]), 2)
        self.assertEqual(nearest([0, 1, 2], [1, 2, 0])[:2], (0, [1, 2, 0]))

    def test_rankings_that_fall(self):
        for many in range(1, 7):
            line = LONG_LINE[:many]
            for ranking in all_on_line(line):
                self.assertEqual(nearest(line, ranking)[:2], (0, ranking))
                self.assert_nearest(line, ranking)
        self.assertEqual(nearest([6], [6])[:2], (0, [6]))

    def test_all_of_few_names(self):
        for line in ([6], [2, 6], [2, 0, 1], [4, 0, 7, 2]):
            for ranking in orders(line):
                told = self.assert_nearest(line, ranking)
                self.assertEqual(told == 0, falls_by_words(line, ranking))
                self.assertEqual(nearest(line[::-1], ranking)[0], told)

    def test_five_and_six_names(self):
        chance = random.Random(101)
        for many in (5, 6):
            for _ in range(120):
                line = chance.sample(range(30), many)
                self.assert_nearest(line, chance.sample(line, many))

    def test_rankings_that_are_near(self):
        chance = random.Random(102)
        for many in range(2, 9):
            line = chance.sample(range(30), many)
            for moves in range(4):
                ranking = moved(chance, chance.choice(all_on_line(line)), moves)
                self.assertLessEqual(self.assert_nearest(line, ranking), moves)

    def test_ten_names(self):
        chance = random.Random(103)
        for _ in range(6):
            line = chance.sample(range(40), 10)
            self.assert_nearest(line, chance.sample(line, 10))
        self.assert_nearest([LONGEST, 0, LONGEST - 1, 4], [LONGEST, LONGEST - 1, 0, 4])
        # The names come from both ends in turn, the middle ones last: as far off as can be.
        turned = [name for place in range(5) for name in (LONG_LINE[place], LONG_LINE[9 - place])]
        self.assertGreater(self.assert_nearest(LONG_LINE, turned), 15)

    def test_ten_names_are_answered_soon(self):
        chance = random.Random(104)
        start = time.monotonic()
        for _ in range(60):
            ranking = chance.sample(TEN, 10)
            self.assertIsNone(nearest_judged(LONG_LINE, ranking, nearest(LONG_LINE, ranking)))
        self.assertLess(time.monotonic() - start, 20)


class NearestJudged(unittest.TestCase):

    def assert_judged(self, thing, line=LINE, ranking=RANKING):
        """What is told of a thing is what the words tell; it is told on."""
        told = nearest_judged(line, ranking, thing)
        self.assertEqual(frozen(told), frozen(nearest_judged_by_words(line, ranking, thing)), thing)
        if told is not None:
            self.assertIs(type(told), tuple)
            self.assertIs(type(told[0]), str)
            self.assertEqual([number for number in numbers_in(told) if type(number) is not int], [])
        self.assertEqual(nearest_judged(line, ranking, thing), told)
        return told

    def test_right_answers(self):
        self.assertIsNone(self.assert_judged(RIGHT))
        self.assertIsNone(self.assert_judged((0, [6], [[0]]), [6], [6]))
        self.assertIsNone(self.assert_judged((0, [2, 6], [[0, 0], [0]]), [2, 6], [2, 6]))
        self.assertIsNone(self.assert_judged((1, [0, 1, 2], [[0, 0, 1], [0, 0], [0]]), [0, 1, 2], [0, 2, 1]))

    def test_lesser_numbers_are_right_where_they_bar_as_much(self):
        self.assertIsNone(self.assert_judged(set_in(1, 2, -1)))
        self.assertIsNone(self.assert_judged(set_in(1, 3, -1)))
        self.assertIsNone(self.assert_judged(set_in(2, 2, -1)))
        self.assertIsNone(self.assert_judged((2, [3, 1, 0, 4], [[0, 0, 0, 2], [0, 0, -1], [-1, 0], [0]])))

    def test_no_three_things_with_a_number_first(self):
        _, other, table = RIGHT
        for thing in ODD_THINGS + [RIGHT[:2], RIGHT[1:], RIGHT + (None,), list(RIGHT), [RIGHT], (RIGHT,), RIGHT + RIGHT]:
            with self.subTest(thing=thing):
                if not (type(thing) is tuple and len(thing) == 3):
                    self.assertEqual(self.assert_judged(thing), ("nearest",))
        for number in (None, True, False, "", "2", (2,), [2], ()):
            self.assertEqual(self.assert_judged((number, other, table)), ("nearest",))
            self.assertEqual(self.assert_judged((number, number, number)), ("nearest",))
        # A truth is no number, though it is like 1 or 0.
        right = ([0, 1, 2], [[0, 0, 1], [0, 0], [0]])
        self.assertEqual(self.assert_judged((True, *right), [0, 1, 2], [0, 2, 1]), ("nearest",))
        self.assertEqual(self.assert_judged((False, *right), [0, 1, 2], [0, 1, 2]), ("nearest",))

    def test_no_ranking_that_falls(self):
        number, other, table = RIGHT
        for thing in bent_lists(other, LINE) + [None, tuple(other), [other], [0, 1], TEN]:
            with self.subTest(thing=thing):
                self.assertEqual(self.assert_judged((number, thing, table)), ("falls",))
        for ranking in orders(LINE):
            told = self.assert_judged((number, ranking, table))
            if not falls_by_words(LINE, ranking):
                self.assertEqual(told, ("falls",))
            elif pairs_by_words(RANKING, ranking) != 2:
                self.assertEqual(told, ("pairs",))
            else:
                self.assertIsNone(told)

    def test_another_number_of_pairs(self):
        _, other, table = RIGHT
        for number in (0, 1, 3, -2, 6, 10 ** 50, -10 ** 50):
            self.assertEqual(self.assert_judged((number, other, table)), ("pairs",))

    def test_no_table(self):
        number, other, _ = RIGHT
        things = ODD_THINGS + [TABLE[:3], TABLE + [[]], TABLE[1:], tuple(TABLE), [TABLE], TABLE[::-1], TABLE + [[0]]]
        for thing in things:
            with self.subTest(thing=thing):
                self.assertEqual(self.assert_judged((number, other, thing)), ("table",))
        for i, row in enumerate(TABLE):
            for wrong in (None, (), [], 7, tuple(row), row[:-1], row + [0], [row], [None] * i + row):
                if wrong != row:
                    self.assertEqual(self.assert_judged((number, other, TABLE[:i] + [wrong] + TABLE[i + 1:])), ("table",))
            for j in range(i, 4):
                for wrong in (None, True, False, "", "0", (), [], [0], (0,)):
                    self.assertEqual(self.assert_judged(set_in(i, j, wrong)), ("table",))

    def test_the_first_number_that_is_not_right(self):
        for i in range(4):
            for j in range(i, 4):
                told = self.assert_judged(set_in(i, j, TABLE[i][j - i] + 10 ** 40))
                self.assertEqual(told, ("number", i, j))
        self.assertEqual(self.assert_judged(set_in(0, 0, 1)), ("number", 0, 0))
        self.assertEqual(self.assert_judged(set_in(3, 3, 1)), ("number", 3, 3))
        # Less in a lesser stretch, than which there is too much in a greater one.
        self.assertEqual(self.assert_judged(set_in(2, 3, -1)), ("number", 1, 3))
        self.assertEqual(self.assert_judged(set_in(0, 1, -1)), ("number", 0, 2))
        self.assertEqual(self.assert_judged(set_in(1, 3, -9)), ("number", 0, 3))
        self.assertEqual(self.assert_judged(set_in(0, 2, -9)), ("number", 0, 3))

    def test_the_whole_line_s_number_is_less(self):
        for number in (1, 0, -1, -10 ** 40):
            self.assertEqual(self.assert_judged(set_in(0, 3, number)), ("less",))
        self.assertEqual(self.assert_judged((0, [6], [[-1]]), [6], [6]), ("less",))

    def test_bent_in_one_place(self):
        for thing in bent_answers(RIGHT, LINE) + bent_answers(nearest(LINE, RANKING), LINE):
            self.assert_judged(thing)
        chance = random.Random(105)
        for many in (1, 2, 3, 4, 5):
            for _ in range(2):
                line = chance.sample(range(12), many)
                ranking = chance.sample(line, many)
                for thing in bent_answers(nearest(line, ranking), line):
                    self.assert_judged(thing, line, ranking)

    def test_bent_in_two_places(self):
        chance = random.Random(106)
        found = set()
        for _ in range(2500):
            line = chance.sample(range(12), chance.randint(1, 5))
            ranking = chance.sample(line, len(line))
            number, other, table = nearest(line, ranking)
            table = [list(row) for row in table]
            for _ in range(2):
                row = chance.choice(table)
                k = chance.randrange(len(row))
                if type(row[k]) is int and chance.random() < 0.95:
                    row[k] += chance.choice([-10 ** 40, -3, -2, -1, 1, 2])
                else:
                    row[k] = chance.choice([None, True])
            other = moved(chance, other, chance.choice([0] * 7 + [1]))
            told = self.assert_judged((number + chance.choice([0] * 9 + [1]), other, table), line, ranking)
            found.add(told and told[0])
        self.assertEqual(found, {None, "falls", "pairs", "table", "number", "less"})

    def test_where_none_is_told_no_ranking_is_nearer(self):
        chance = random.Random(107)
        for _ in range(80):
            line = chance.sample(range(12), chance.randint(2, 6))
            ranking = chance.sample(line, len(line))
            number, _, table = nearest(line, ranking)
            for other in all_on_line(line):
                pairs = pairs_by_words(ranking, other)
                told = self.assert_judged((pairs, other, table), line, ranking)
                self.assertEqual(told, None if pairs == number else ("less",))


class Refused(unittest.TestCase):

    def assert_refused(self, kind, line, ranking):
        with self.subTest(line=line, ranking=ranking):
            with refused(self, kind):
                nearest(line, ranking)
            for thing in (RIGHT, None, (), True, line):
                with refused(self, kind):
                    nearest_judged(line, ranking, thing)

    def test_no_line_ahead_of_all_else(self):
        for thing in NO_RANKINGS:
            for ranking in [[0, 1], [0], TEN] + NO_RANKINGS[:20] + [thing]:
                self.assert_refused("NoLine", thing, ranking)

    def test_no_ranking_behind_that(self):
        for thing in NO_RANKINGS:
            for line in ([0, 1], [0], LINE):
                self.assert_refused("NoRanking", line, thing)

    def test_other_names_behind_that(self):
        for line, ranking in product([[0, 1], [0], [2, 0], LINE, TEN, [LONGEST]], repeat=2):
            if line != ranking:
                self.assert_refused("NoFit", line, ranking)


class Own(unittest.TestCase):

    def test_what_is_handed_in_stays_as_it_was(self):
        same = [2, 0, 1]
        for line, ranking in ((LINE, RANKING), ([6], [6]), (same, same), (LONG_LINE, TEN), (TEN, LONG_LINE)):
            check_own(self, nearest, line, ranking)
            check_own(self, nearest_judged, line, ranking, nearest(line, ranking))
        check_own(self, nearest_judged, same, same, (0, same, [[0] * 3, [0] * 2, [0]]))
        for thing in bent_answers(RIGHT, LINE):
            before = frozen(thing)
            nearest_judged(LINE, RANKING, thing)
            self.assertEqual(frozen(thing), before)

    def test_what_was_handed_in_may_be_changed_behind(self):
        line, ranking = list(LINE), list(RANKING)
        told = nearest(line, ranking)
        picture = frozen(told)
        for part in inner_lists([line, ranking]):
            part.clear()
        self.assertEqual(frozen(told), picture)


if __name__ == "__main__":
    unittest.main()
