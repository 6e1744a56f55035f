"""The judge of points 13 and 14, with points 2, 3 and 4 for it: ontheline.rows."""

import random
import time
import unittest
from itertools import permutations, product

from by_words import all_bars, all_rows, row_judged_by_words
from ontheline.rows import row_judged
from samples import (
    LONGEST, NO_FOLKS, ODD_THINGS, bent_lists, bent_papers, check_own, numbers_in, orders, refused, some_along_row)

TEN = list(range(10))

# Along the hands 2, 0, 3, 1 the name 0 comes ahead of 4, then of 1.
ROW = [[1, 0, 4], [0, 1, 4], [1, 4, 0], [1, 0, 4]]
ROW_PAPER = ("row", [2, 0, 3, 1])
# The hand 3 alone has 0 ahead of 1, the hand 0 alone 2 ahead of 1, the hand 2 alone 5 ahead of 4.
APART = [[2, 1, 0, 4, 5], [4, 2, 1, 0, 5], [1, 2, 0, 5, 4], [0, 1, 2, 4, 5]]
APART_PAPER = ("apart", [3, 0, 2], [[0, 1], [2, 1], [5, 4]])
# The hands 4 and 1 have 0 ahead of 1, 4 and 2 have 3 ahead of 7, and 0 has neither.
CROSS = [[1, 0, 7, 3], [0, 1, 7, 3], [1, 0, 3, 7], [7, 1, 0, 3], [3, 7, 0, 1]]
CROSS_PAPER = ("cross", [4, 1, 2, 0], [[0, 1], [3, 7]])

RIGHT = [(ROW, ROW_PAPER), (APART, APART_PAPER), (CROSS, CROSS_PAPER)]


class LetBy(unittest.TestCase):

    def test_right_papers(self):
        for folk, paper in RIGHT:
            with self.subTest(paper=paper):
                self.assertIsNone(row_judged(folk, paper))
                self.assertIsNone(row_judged_by_words(folk, paper))

    def test_a_row_from_either_end(self):
        for row in ([2, 0, 3, 1], [1, 3, 0, 2], [2, 3, 0, 1], [1, 0, 3, 2]):
            self.assertIsNone(row_judged(ROW, ("row", row)))

    def test_hands_and_pairs_of_apart_in_any_order(self):
        for places in permutations(range(3)):
            hands = [APART_PAPER[1][place] for place in places]
            pairs = [APART_PAPER[2][place] for place in places]
            self.assertIsNone(row_judged(APART, ("apart", hands, pairs)))

    def test_other_ways_to_tell_a_cross(self):
        for hands, pairs in (
                ([4, 2, 1, 0], [[3, 7], [0, 1]]), ([1, 4, 0, 2], [[0, 1], [7, 3]]), ([0, 2, 1, 4], [[1, 0], [7, 3]]),
                ([2, 0, 4, 1], [[1, 0], [3, 7]]), ([4, 1, 2, 3], [[0, 1], [3, 7]])):
            self.assertIsNone(row_judged(CROSS, ("cross", hands, pairs)))

    def test_pairs_that_share_names(self):
        folk = [[0, 1, 2], [1, 2, 0], [2, 0, 1]]
        self.assertIsNone(row_judged(folk, ("apart", [0, 1, 2], [[0, 2], [1, 0], [2, 1]])))
        folk = [[0, 1, 2], [2, 0, 1], [1, 0, 2], [2, 1, 0]]
        self.assertIsNone(row_judged(folk, ("cross", [0, 1, 2, 3], [[0, 1], [0, 2]])))

    def test_one_hand_alone(self):
        for ranking in ([6], [2, 0, 5], TEN):
            self.assertIsNone(row_judged([ranking], ("row", [0])))
            for row in ([], [1], [0, 0], [False], (0,), 0, None, [-1]):
                self.assertEqual(row_judged([ranking], ("row", row)), ("row",))
            self.assertEqual(row_judged([ranking], ("apart", [0, 0, 0], [[2, 0], [2, 0], [2, 0]])), ("apart",))
            self.assertEqual(row_judged([ranking], ("cross", [0, 0, 0, 0], [[2, 0], [2, 0]])), ("cross",))

    def test_two_hands_stand_in_any_row(self):
        for folk in product(orders([4, 0, 2]), repeat=2):
            self.assertIsNone(row_judged(list(folk), ("row", [0, 1])))
            self.assertIsNone(row_judged(list(folk), ("row", [1, 0])))

    def test_one_name_alone(self):
        for row in permutations(range(4)):
            self.assertIsNone(row_judged([[6]] * 4, ("row", list(row))))
        self.assertEqual(row_judged([[6]] * 4, ("apart", [0, 1, 2], [[6, 6]] * 3)), ("apart",))
        self.assertEqual(row_judged([[6]] * 4, ("cross", [0, 1, 2, 3], [[6, 6]] * 2)), ("cross",))

    def test_long_names(self):
        folk = [[LONGEST, 0, LONGEST - 1], [0, LONGEST, LONGEST - 1], [LONGEST, 0, LONGEST - 1]]
        self.assertIsNone(row_judged(folk, ("row", [1, 0, 2])))
        self.assertEqual(row_judged(folk, ("row", [0, 1, 2])), ("twice", 0, LONGEST))

    def test_twenty_hands_and_ten_names(self):
        folk = some_along_row(random.Random(31), TEN, 20)
        self.assertIsNone(row_judged(folk, ("row", list(range(20)))))
        self.assertIsNone(row_judged(folk, ("row", list(range(19, -1, -1)))))
        other = [1, 0, 2, 3, 4, 5, 6, 7, 9, 8]
        folk = [TEN] * 7 + [other] + [TEN] * 11 + [other]
        self.assertEqual(row_judged(folk, ("row", list(range(20)))), ("twice", 0, 1))
        self.assertIsNone(row_judged(folk, ("row", [hand for hand in range(20) if hand not in (7, 19)] + [7, 19])))


class Told(unittest.TestCase):

    def test_no_paper(self):
        for folk, paper in RIGHT:
            for thing in bent_papers(paper, ("line", "three", "four", "order", "tree", "gone", "paper", "twice")):
                with self.subTest(thing=thing):
                    self.assertEqual(row_judged(folk, thing), ("paper",))

    def test_words_that_ask_for_other_many_things(self):
        for folk, (_, *rest) in RIGHT:
            for word in ("row", "apart", "cross"):
                for many in range(5):
                    things = (word,) + tuple((rest * 3)[:many])
                    if many != (1 if word == "row" else 2):
                        self.assertEqual(row_judged(folk, things), ("paper",), things)

    def test_no_paper_ahead_of_what_stands_in_it(self):
        for thing in ODD_THINGS:
            self.assertEqual(row_judged(ROW, ("row", thing, thing)), ("paper",))
            self.assertEqual(row_judged(ROW, ("apart", thing)), ("paper",))
            self.assertEqual(row_judged(ROW, ("cross", thing, thing, thing)), ("paper",))
            self.assertEqual(row_judged(ROW, (thing, [0, 1], [0])), ("paper",))

    def test_no_row(self):
        for row in bent_lists([2, 0, 3, 1], [0, 1, 2, 3]):
            with self.subTest(row=row):
                self.assertEqual(row_judged(ROW, ("row", row)), ("row",))
        for row in bent_lists([1, 0], [0, 1]):
            self.assertEqual(row_judged([[1, 0], [0, 1]], ("row", row)), ("row",))
        for row in bent_lists(list(range(20)), list(range(20))):
            self.assertEqual(row_judged([TEN] * 20, ("row", row)), ("row",))

    def test_hands_beyond_the_folk_and_names_in_a_row(self):
        folk = [[5, 6, 7], [6, 5, 7], [6, 7, 5]]
        for row in ([5, 6, 7], [1, 2, 3], [0, 1, 3], [0, 1, -1], [0, 1], [0, 1, 2, 3]):
            self.assertEqual(row_judged(folk, ("row", row)), ("row",))

    def test_the_first_two_names_that_change_sides_more_than_once(self):
        for folk, expected in (
                ([[0, 1, 2], [1, 0, 2], [0, 1, 2]], ("twice", 0, 1)),
                ([[1, 0, 2], [0, 1, 2], [1, 0, 2]], ("twice", 0, 1)),
                ([[0, 1, 2], [0, 2, 1], [0, 1, 2]], ("twice", 1, 2)),
                ([[0, 2, 1], [2, 0, 1], [0, 2, 1]], ("twice", 0, 2)),
                ([[0, 1, 2], [2, 1, 0], [0, 1, 2]], ("twice", 0, 1)),
                ([[0, 1, 2], [2, 0, 1], [0, 1, 2]], ("twice", 0, 2)),
                ([[9, 10, 2], [10, 9, 2], [9, 10, 2]], ("twice", 9, 10)),
                ([[10, 9, 2], [9, 2, 10], [10, 9, 2]], ("twice", 2, 10)),
                ([[0, 1, 2], [1, 0, 2], [1, 0, 2], [0, 1, 2]], ("twice", 0, 1)),
                ([[0, 1, 2], [1, 0, 2], [1, 2, 0], [2, 1, 0]], None),
                ([[0, 1, 2], [1, 0, 2], [0, 1, 2], [2, 1, 0]], ("twice", 0, 1))):
            self.assertEqual(row_judged(folk, ("row", list(range(len(folk))))), expected)
            self.assertEqual(row_judged(folk[::-1], ("row", list(range(len(folk))))), expected)

    def test_the_order_of_the_row_and_not_of_the_hands(self):
        folk = [[0, 1], [1, 0], [0, 1], [1, 0]]
        for row in permutations(range(4)):
            good = row[0] % 2 == row[1] % 2
            self.assertEqual(row_judged(folk, ("row", list(row))), None if good else ("twice", 0, 1))

    def test_no_hands_or_no_pairs(self):
        for folk, (word, hands, pairs) in RIGHT[1:]:
            known_hands, known_names = list(range(len(folk))), sorted(folk[0])
            wrong_pairs = [pairs[:at] + [wrong] + pairs[at + 1:] for at, pair in enumerate(pairs)
                           for wrong in bent_lists(pair, known_names)]
            wrong_pairs += ODD_THINGS + [tuple(pairs), [pairs], pairs[1:], pairs[:-1], pairs + pairs[:1], pairs[0],
                                         [tuple(pair) for pair in pairs], hands, pairs[:1]]
            for thing in bent_lists(hands, known_hands):
                with self.subTest(hands=thing):
                    self.assertEqual(row_judged(folk, (word, thing, pairs)), (word,))
                    self.assertEqual(row_judged(folk, (word, thing, wrong_pairs[0])), (word,))
            for thing in wrong_pairs:
                with self.subTest(pairs=thing):
                    self.assertEqual(row_judged(folk, (word, hands, thing)), (word,))

    def test_pairs_of_one_name_twice_of_one_of_three_and_of_names_that_are_not_there(self):
        for folk, (word, hands, pairs) in RIGHT[1:]:
            for place in range(len(pairs)):
                for pair in ([0, 0], [0], [0, 1, 4], [0, 1, 7], [0, 9], [9, 0], [8, 9], [True, 0], [0, True], []):
                    changed = pairs[:place] + [pair] + pairs[place + 1:]
                    self.assertEqual(row_judged(folk, (word, hands, changed)), (word,))

    def test_lists_of_another_word(self):
        self.assertEqual(row_judged(APART, ("cross", *APART_PAPER[1:])), ("cross",))
        self.assertEqual(row_judged(CROSS, ("apart", *CROSS_PAPER[1:])), ("apart",))

    def test_the_first_saying_that_is_not_so(self):
        # Each saying in turn alone isn't so, then also all that come later.
        for word, many in (("apart", 3), ("cross", 4)):
            pairs = [[0, 1], [2, 3], [4, 5]][:3 if word == "apart" else 2]
            sides = [[place == at for place in range(3)] for at in range(3)]
            if word == "cross":
                sides = [[True, True, False, False], [True, False, True, False]]
            for k in range(many * len(pairs) + 1):
                for later in (False, True):
                    folk = [[] for _ in range(many)]
                    for at, pair in enumerate(pairs):
                        for place in range(many):
                            number = many * at + place
                            wrong = number == k or later and number > k
                            folk[place] += pair if sides[at][place] != wrong else pair[::-1]
                    told = row_judged(folk, (word, list(range(many)), pairs))
                    self.assertEqual(told, ("side", k) if k < many * len(pairs) else None)

    def test_all_papers_of_few_hands_and_names(self):
        chance = random.Random(32)
        for names, hands in (([0, 1, 2], 3), ([5, 0, 2], 4), ([1, 0], 4), ([3], 4)):
            papers = None
            for _ in range(3):
                folk = [chance.sample(names, len(names)) for _ in range(hands)]
                papers = papers or all_bars(folk) + [("row", list(row)) for row in permutations(range(hands))]
                for paper in papers:
                    self.assertEqual(row_judged(folk, paper), row_judged_by_words(folk, paper), (folk, paper))

    def test_lists_of_any_numbers(self):
        folk = [[0, 1, 2], [2, 0, 1], [1, 2, 0]]
        for hands in product(range(-1, 4), repeat=3):
            for paper in (("row", list(hands)), ("apart", list(hands), [[0, 2], [2, 1], [1, 0]]),
                          ("apart", list(hands), [[0, 2], [0, 1], [1, 0]])):
                self.assertEqual(row_judged(folk, paper), row_judged_by_words(folk, paper), paper)
        for pair in product(range(-1, 4), repeat=2):
            for pairs in ([list(pair), [2, 1], [1, 0]], [[0, 2], list(pair), [1, 0]], [[0, 2], [2, 1], list(pair)]):
                paper = ("apart", [0, 1, 2], pairs)
                self.assertEqual(row_judged(folk, paper), row_judged_by_words(folk, paper), paper)

    def test_what_is_told_are_tuples_of_a_word_and_of_numbers_that_are_no_truths(self):
        asked = [(ROW, None), (ROW, ("row", [])), (APART, ("apart", [], [])), (CROSS, ("cross", [], []))]
        asked += [([[0, 1], [1, 0], [0, 1]], ("row", [0, 1, 2])), ([[2, 1], [1, 2], [2, 1]], ("row", [0, 1, 2]))]
        asked += [(APART, ("apart", [3, 0, 2], pairs)) for pairs in product([[0, 1], [2, 1], [5, 4], [0, 5]], repeat=3)]
        asked += [(CROSS, ("cross", list(hands), [[0, 1], [3, 7]])) for hands in permutations(range(5), 4)]
        found = set()
        for folk, paper in asked:
            told = row_judged(folk, (*paper[:2], list(paper[2])) if paper and len(paper) == 3 else paper)
            if told is not None:
                self.assertIs(type(told), tuple)
                self.assertIs(type(told[0]), str)
                self.assertEqual([number for number in numbers_in(told) if type(number) is not int], [])
                found.add(told)
        self.assertLessEqual({("paper",), ("row",), ("apart",), ("cross",), ("twice", 0, 1), ("twice", 1, 2),
                              ("side", 0), ("side", 1)}, found)


class NeverBoth(unittest.TestCase):

    def test_no_row_and_bar_of_three_hands(self):
        bars = None
        for one, other in product(orders([0, 1, 2]), repeat=2):
            folk = [[0, 1, 2], one, other]
            bars = bars or all_bars(folk)
            self.assert_rows_or_bars(folk, bars)

    def test_no_row_and_bar_of_four_hands(self):
        bars = None
        for rest in list(product(orders([0, 1, 2]), repeat=3))[::3]:
            folk = [[0, 1, 2], *rest]
            bars = bars or all_bars(folk)
            self.assert_rows_or_bars(folk, bars)

    def assert_rows_or_bars(self, folk, bars):
        rows = [list(row) for row in permutations(range(len(folk)))]
        let_by = [row for row in rows if row_judged(folk, ("row", row)) is None]
        self.assertEqual(let_by, all_rows(folk))
        barred = any(row_judged(folk, bar) is None for bar in bars)
        self.assertEqual(barred, not let_by, folk)


class Refused(unittest.TestCase):

    def test_what_is_no_folk_ahead_of_the_paper(self):
        for thing in NO_FOLKS:
            for paper in [("row", [0, 1]), ("row", [0]), APART_PAPER, CROSS_PAPER, ("row", []), ("paper",),
                          *ODD_THINGS]:
                with self.subTest(thing=thing, paper=paper), refused(self, "NoFolk"):
                    row_judged(thing, paper)


class Own(unittest.TestCase):

    def test_what_is_handed_in_stays_as_it_was(self):
        for folk, paper in RIGHT:
            check_own(self, row_judged, folk, paper)
            check_own(self, row_judged, folk, list(paper))
            check_own(self, row_judged, folk, (paper[0], *[part[::-1] for part in paper[1:]]))
            check_own(self, row_judged, folk, (paper[0], *[part[:-1] for part in paper[1:]]))
            check_own(self, row_judged, folk[:1], paper)
        same = [1, 0]
        check_own(self, row_judged, [same, same], ("row", same))
        check_own(self, row_judged, [same, same, same], ("apart", [0, 1, 2], [same, same, same]))

    def test_asked_again_of_what_was_changed_meanwhile(self):
        folk, row = [[0, 1], [0, 1], [1, 0]], [0, 1, 2]
        self.assertIsNone(row_judged(folk, ("row", row)))
        folk[0].reverse()
        self.assertEqual(row_judged(folk, ("row", row)), ("twice", 0, 1))
        row[:] = [1, 0, 2]
        self.assertIsNone(row_judged(folk, ("row", row)))
        row.append(3)
        self.assertEqual(row_judged(folk, ("row", row)), ("row",))

    def test_is_told_soon(self):
        folk = some_along_row(random.Random(33), TEN, 20)
        start = time.monotonic()
        for _ in range(300):
            row_judged(folk, ("row", list(range(20))))
            row_judged(folk, ("apart", [17, 18, 19], [[0, 1], [2, 3], [4, 5]]))
            row_judged(folk, ("cross", [0, 7, 12, 19], [[0, 1], [2, 3]]))
        self.assertLess(time.monotonic() - start, 10)


if __name__ == "__main__":
    unittest.main()
