"""Points 7 to 9, the numbers of point 3, and point 2 for what they tell: ontheline.lines."""

import time
import unittest
from itertools import combinations, product

from ontheline.lines import all_lines, falls, lines_of, number_on, ranking_on, valley
from samples import (
    LONGEST, NO_FOLKS, NO_RANKINGS, check_own, falls_by_words, orders, refused)

TEN = list(range(10))
LINE = [5, 0, 9, 2, 7, 1, 8, 3, 6, 4]
ON_LINE = [7, 2, 1, 8, 9, 3, 0, 6, 5, 4]
BIG = [LONGEST, 0, LONGEST - 1, 10 ** 29]
OTHER_NAMES = [
    ([0, 1], [0, 2]), ([0, 1], [0]), ([0], [0, 1]), ([0], [1]), (TEN, TEN[:9]), (TEN[:9], TEN),
    (TEN, TEN[:9] + [10]), ([LONGEST, 1], [1, LONGEST - 1]), ([0, 1, 2], [3, 4, 5]),
]


def valley_by_words(line, ranking):
    """The first three names by the tuples of their places, from all such tuples set in order."""
    found = []
    for places in combinations(range(len(line)), 3):
        a, b, c = (line[place] for place in places)
        if ranking.index(b) > ranking.index(a) and ranking.index(b) > ranking.index(c):
            found.append(places)
    return tuple(line[place] for place in min(found)) if found else None


class Falls(unittest.TestCase):

    def test_by_the_words(self):
        for many in range(1, 7):
            names = [7, 3, 0, 12, 5, 9][:many]
            fallen = 0
            for ranking in orders(names):
                told = falls(names, ranking)
                self.assertIs(told, falls_by_words(names, ranking))
                fallen += told
            self.assertEqual(fallen, 2 ** (many - 1))

    def test_every_line_of_four_names(self):
        for line, ranking in product(orders([4, 1, 8, 3]), repeat=2):
            self.assertIs(falls(line, ranking), falls_by_words(line, ranking))
            self.assertIs(falls(line[::-1], ranking), falls(line, ranking))

    def test_ordinary(self):
        self.assertIs(falls([0, 1, 2, 3], [1, 2, 0, 3]), True)
        self.assertIs(falls([0, 1, 2, 3], [1, 2, 3, 0]), True)
        self.assertIs(falls([0, 1, 2, 3], [1, 3, 2, 0]), False)
        self.assertIs(falls([0, 1, 2, 3], [0, 3, 1, 2]), False)
        self.assertIs(falls([0, 1, 2, 3], [2, 1, 0, 3]), True)
        self.assertIs(falls([3, 1, 2, 0], [0, 1, 2, 3]), False)

    def test_ten_names(self):
        self.assertIs(falls(LINE, ON_LINE), True)
        self.assertIs(falls(LINE, LINE), True)
        self.assertIs(falls(LINE, LINE[::-1]), True)
        self.assertIs(falls(LINE, TEN), False)
        for at in range(9):
            changed = ON_LINE[:at] + [ON_LINE[at + 1], ON_LINE[at]] + ON_LINE[at + 2:]
            self.assertIs(falls(LINE, changed), falls_by_words(LINE, changed))

    def test_one_and_two_names_always_fall(self):
        self.assertIs(falls([6], [6]), True)
        for line, ranking in product(orders([6, 2]), repeat=2):
            self.assertIs(falls(line, ranking), True)

    def test_long_names(self):
        self.assertIs(falls(BIG, [0, LONGEST - 1, LONGEST, 10 ** 29]), True)
        self.assertIs(falls(BIG, [LONGEST - 1, LONGEST, 0, 10 ** 29]), False)


class Valley(unittest.TestCase):

    def test_by_the_words(self):
        for many in range(1, 7):
            names = [7, 3, 0, 12, 5, 9][:many]
            for ranking in orders(names):
                told = valley(names, ranking)
                self.assertEqual(told, valley_by_words(names, ranking))
                self.assertEqual(told is None, falls(names, ranking))

    def test_every_line_of_four_names(self):
        for line, ranking in product(orders([4, 1, 8, 3]), repeat=2):
            self.assertEqual(valley(line, ranking), valley_by_words(line, ranking))

    def test_ordinary(self):
        self.assertIsNone(valley([0, 1, 2, 3], [1, 2, 0, 3]))
        self.assertEqual(valley([0, 1, 2], [2, 0, 1]), (0, 1, 2))
        self.assertEqual(valley([4, 9, 2], [4, 2, 9]), (4, 9, 2))
        self.assertIs(type(valley([4, 9, 2], [4, 2, 9])), tuple)

    def test_the_first_by_places_and_not_by_names(self):
        self.assertEqual(valley([3, 1, 2, 0], [3, 0, 2, 1]), (3, 1, 2))
        self.assertEqual(valley([3, 2, 1, 0], [3, 0, 1, 2]), (3, 2, 1))
        self.assertEqual(valley([0, 1, 2, 3], [3, 0, 2, 1]), (0, 1, 2))
        self.assertEqual(valley([0, 1, 2, 3], [3, 0, 1, 2]), (0, 1, 3))
        self.assertEqual(valley([5, 6, 7, 8], [6, 8, 7, 5]), (6, 7, 8))

    def test_ten_names(self):
        self.assertIsNone(valley(LINE, ON_LINE))
        self.assertEqual(valley(LINE, TEN), valley_by_words(LINE, TEN))
        self.assertEqual(valley(LINE, ON_LINE[::-1]), valley_by_words(LINE, ON_LINE[::-1]))
        self.assertEqual(valley(TEN, [9] + TEN[:9]), (0, 1, 9))
        self.assertEqual(valley(TEN, TEN[:7] + [9, 7, 8]), (0, 7, 9))


class LineAndRankingRefused(unittest.TestCase):

    ASKED = [falls, valley, number_on]

    def test_what_is_no_line_ahead_of_all_else(self):
        for ask, thing in product(self.ASKED, NO_RANKINGS):
            for behind in ([0, 1], [5, 6, 7], None, [], [0, 0]):
                with self.subTest(ask=ask, thing=thing, behind=behind), refused(self, "NoLine"):
                    ask(thing, behind)

    def test_what_is_no_ranking_behind_a_line(self):
        for ask, thing in product(self.ASKED, NO_RANKINGS):
            for line in ([0, 1], [5, 6, 7], TEN):
                with self.subTest(ask=ask, thing=thing), refused(self, "NoRanking"):
                    ask(line, thing)

    def test_other_names(self):
        for ask in self.ASKED:
            for line, ranking in OTHER_NAMES:
                with self.subTest(ask=ask, line=line, ranking=ranking), refused(self, "NoFit"):
                    ask(line, ranking)


class Numbers(unittest.TestCase):

    def test_every_number_has_its_ranking_and_each_once(self):
        for many in range(1, 8):
            line = [7, 3, 0, 12, 5, 9, 1][:many]
            power = 2 ** (many - 1)
            told = [ranking_on(line, number) for number in range(power)]
            self.assertEqual(len({tuple(ranking) for ranking in told}), power)
            for number, ranking in enumerate(told):
                self.assertTrue(falls_by_words(line, ranking))
                self.assertEqual(number_on(line, ranking), number)

    def test_the_rankings_that_fall_have_just_these_numbers(self):
        for many in range(1, 7):
            line = [7, 3, 0, 12, 5, 9][:many]
            told = [number_on(line, ranking) for ranking in orders(line) if falls_by_words(line, ranking)]
            self.assertEqual(sorted(told), list(range(2 ** (many - 1))))
            for ranking in orders(line):
                if falls_by_words(line, ranking):
                    self.assertEqual(ranking_on(line, number_on(line, ranking)), ranking)

    def test_every_line_of_four_names(self):
        for line in orders([4, 1, 8, 3]):
            told = [ranking_on(line, number) for number in range(8)]
            self.assertEqual(sorted(told), sorted(one for one in orders(line) if falls_by_words(line, one)))
            self.assertEqual([number_on(line, ranking) for ranking in told], list(range(8)))

    def test_ten_names(self):
        told = [ranking_on(LINE, number) for number in range(512)]
        self.assertEqual(len({tuple(ranking) for ranking in told}), 512)
        for number, ranking in enumerate(told):
            self.assertTrue(falls_by_words(LINE, ranking))
            self.assertEqual(number_on(LINE, ranking), number)

    def test_long_names(self):
        for number in range(8):
            self.assertEqual(number_on(BIG, ranking_on(BIG, number)), number)

    def test_one_name(self):
        self.assertEqual(ranking_on([6], 0), [6])
        self.assertEqual(number_on([6], [6]), 0)
        for number in (-1, 1, 2):
            with refused(self, "NoNumber"):
                ranking_on([6], number)

    def test_refuses_a_number_that_none_has(self):
        for many in range(1, 11):
            power = 2 ** (many - 1)
            for number in (-1, -2, -power, -LONGEST, power, power + 1, 2 * power, LONGEST):
                with self.subTest(many=many, number=number), refused(self, "NoNumber"):
                    ranking_on(LINE[:many], number)
            ranking_on(LINE[:many], power - 1)

    def test_a_truth_is_no_number(self):
        for number in (True, False):
            with refused(self, "NoNumber"):
                ranking_on([4, 2, 7], number)

    def test_refuses_what_is_no_line_ahead_of_the_number(self):
        for thing in NO_RANKINGS:
            for number in (0, -1, 5000, None, [], "0"):
                with self.subTest(thing=thing, number=number), refused(self, "NoLine"):
                    ranking_on(thing, number)

    def test_refuses_a_ranking_that_does_not_fall(self):
        for many in range(3, 6):
            line = [7, 3, 0, 12, 5][:many]
            for ranking in orders(line):
                if not falls_by_words(line, ranking):
                    with self.subTest(ranking=ranking), refused(self, "NoFit"):
                        number_on(line, ranking)
        with refused(self, "NoFit"):
            number_on(LINE, TEN)


class LinesOf(unittest.TestCase):

    def test_by_the_words(self):
        for many in range(1, 7):
            ranking = [7, 3, 0, 12, 5, 9][:many]
            expected = sorted(line for line in orders(ranking) if falls_by_words(line, ranking))
            self.assertEqual(lines_of(ranking), expected)

    def test_one_and_two_names(self):
        self.assertEqual(lines_of([6]), [[6]])
        self.assertEqual(lines_of([6, 2]), [[2, 6], [6, 2]])
        self.assertEqual(lines_of([2, 6]), [[2, 6], [6, 2]])

    def test_ordinary(self):
        self.assertEqual(lines_of([1, 0, 2]), [[0, 1, 2], [1, 0, 2], [2, 0, 1], [2, 1, 0]])

    def test_in_the_order_of_lists_and_not_of_texts(self):
        self.assertEqual(lines_of([10, 9]), [[9, 10], [10, 9]])
        self.assertEqual(lines_of([LONGEST, 2]), [[2, LONGEST], [LONGEST, 2]])

    def test_ten_names(self):
        for ranking in (ON_LINE, TEN, TEN[::-1]):
            told = lines_of(ranking)
            self.assertEqual(len(told), 512)
            self.assertEqual(told, sorted(told))
            self.assertEqual(len({tuple(line) for line in told}), 512)
            for line in told:
                self.assertTrue(falls_by_words(line, ranking))
                self.assertIn(line[::-1], told)
        self.assertIn(LINE, lines_of(ON_LINE))

    def test_as_many_as_there_are_numbers(self):
        for many in range(1, 11):
            self.assertEqual(len(lines_of(LINE[:many])), 2 ** (many - 1))

    def test_refuses_what_is_no_ranking(self):
        for thing in NO_RANKINGS:
            with self.subTest(thing=thing), refused(self, "NoRanking"):
                lines_of(thing)


class AllLines(unittest.TestCase):

    def expected(self, folk):
        return sorted(line for line in orders(folk[0]) if all(falls_by_words(line, ranking) for ranking in folk))

    def test_by_the_words(self):
        for many in range(1, 5):
            names = [7, 3, 10, 0][:many]
            for one, other in product(orders(names), repeat=2):
                folk = [names, one, other]
                self.assertEqual(all_lines(folk), self.expected(folk))

    def test_more_names_and_hands(self):
        some = [ranking_on([7, 3, 0, 12, 5, 9], number) for number in (3, 9, 14, 22, 31, 0)]
        for many in range(1, 7):
            self.assertEqual(all_lines(some[:many]), self.expected(some[:many]))
        self.assertEqual(all_lines(some + [[0, 9, 3, 7, 12, 5]]), self.expected(some + [[0, 9, 3, 7, 12, 5]]))

    def test_of_one_hand_all_lines_of_its_ranking(self):
        for ranking in ([6], [2, 6], [1, 0, 2], ON_LINE):
            self.assertEqual(all_lines([ranking]), lines_of(ranking))
            self.assertEqual(all_lines([ranking] * 20), lines_of(ranking))

    def test_none_left(self):
        self.assertEqual(all_lines([[0, 1, 2], [1, 2, 0], [2, 0, 1]]), [])
        self.assertEqual(all_lines([[0, 1, 2, 3], [2, 3, 1, 0], [3, 1, 0, 2], [0, 2, 3, 1]]), [])

    def test_the_last_hand_alone_bars_all(self):
        folk = [[0, 1, 2]] * 10 + [[1, 2, 0]] * 9 + [[2, 0, 1]]
        self.assertEqual(all_lines(folk), [])
        self.assertEqual(all_lines(folk[:-1]), self.expected(folk[:-1]))

    def test_some_left(self):
        self.assertEqual(all_lines([[0, 1, 2], [2, 1, 0]]), [[0, 1, 2], [2, 1, 0]])
        self.assertEqual(all_lines([[0, 1, 2], [1, 2, 0]]), [[0, 1, 2], [2, 1, 0]])
        self.assertEqual(all_lines([[0, 1, 2], [1, 0, 2]]), [[0, 1, 2], [1, 0, 2], [2, 0, 1], [2, 1, 0]])

    def test_one_name(self):
        self.assertEqual(all_lines([[6]]), [[6]])
        self.assertEqual(all_lines([[6]] * 20), [[6]])

    def test_ten_names_and_twenty_hands(self):
        folk = [ranking_on(LINE, number * 23 + 5) for number in range(20)]
        told = all_lines(folk)
        self.assertIn(LINE, told)
        self.assertIn(LINE[::-1], told)
        self.assertEqual(told, [line for line in lines_of(folk[0])
                                if all(falls_by_words(line, ranking) for ranking in folk)])
        self.assertEqual(all_lines([LINE, LINE[::-1]]), sorted([LINE, LINE[::-1]]))

    def test_refuses_what_is_no_folk(self):
        for thing in NO_FOLKS:
            with self.subTest(thing=thing), refused(self, "NoFolk"):
                all_lines(thing)


class Own(unittest.TestCase):

    def test_what_is_told_is_the_asker_s_own(self):
        for many in range(1, 5):
            ranking = LINE[:many]
            check_own(self, lines_of, ranking)
            check_own(self, all_lines, [ranking])
            check_own(self, all_lines, [ranking, ranking, ranking[::-1]])
            check_own(self, ranking_on, ranking, 0)
            check_own(self, ranking_on, ranking, 2 ** (many - 1) - 1)
        check_own(self, all_lines, [[0, 1, 2], [1, 2, 0], [2, 0, 1]])
        check_own(self, lines_of, ON_LINE)

    def test_what_is_handed_in_stays_as_it_was(self):
        same = [4, 2, 7]
        for ask in (falls, valley, number_on):
            check_own(self, ask, [4, 2, 7], [2, 7, 4])
            check_own(self, ask, same, same)
        check_own(self, falls, [4, 2, 7], [4, 7, 2])
        check_own(self, valley, [4, 2, 7], [4, 7, 2])

    def test_what_is_refused_stays_as_it_was(self):
        for ask, handed in ((number_on, [[4, 2, 7], [4, 7, 2]]), (ranking_on, [[4, 2], 2]),
                            (all_lines, [[[4, 2], [2, 3]]]), (lines_of, [[4, 2, 2]])):
            before = repr(handed)
            with self.assertRaises(ValueError):
                ask(*handed)
            self.assertEqual(repr(handed), before)

    def test_what_was_handed_in_may_be_changed_behind(self):
        folk = [[0, 1, 2], [2, 1, 0]]
        told = all_lines(folk)
        folk[0].reverse()
        folk.append([5])
        self.assertEqual(told, [[0, 1, 2], [2, 1, 0]])
        line = [3, 1]
        told = ranking_on(line, 0)
        picture = list(told)
        line.clear()
        self.assertEqual(told, picture)

    def test_is_told_soon(self):
        start = time.monotonic()
        for number in range(5):
            folk = [ranking_on(LINE, number * 100 + hand) for hand in range(20)]
            all_lines(folk)
            all_lines(folk[:1] * 20)
            lines_of(folk[0])
            valley(LINE, folk[0])
            number_on(LINE, folk[0])
        self.assertLess(time.monotonic() - start, 10)


if __name__ == "__main__":
    unittest.main()
