"""Points 10 and 11, with points 2, 3 and 4 for them: ontheline.judge."""

import random
import time
import unittest
from itertools import permutations, product

from by_words import all_line_papers, judged_by_words
from ontheline.judge import judged
from samples import (
    LONGEST, NO_FOLKS, ODD_THINGS, bent_lists, bent_papers, check_own, numbers_in, orders, refused, some_on_line)

TEN = list(range(10))
LINE = [5, 0, 9, 2, 7, 1, 8, 3, 6, 4]

# All fall on the line 3, 1, 0, 4.
ON_LINE = [[1, 0, 3, 4], [0, 4, 1, 3], [3, 1, 0, 4], [4, 0, 1, 3]]
# Each of 0, 1 and 4 is the last of these for one hand: for the hands 3, 0 and 2.
THREE = [[0, 4, 1, 7], [4, 7, 0, 1], [7, 1, 0, 4], [1, 4, 7, 0]]
THREE_PAPER = ("three", [3, 0, 2], [0, 1, 4])
# The names 0, 1 and 5 in this order and the other way about, for the hands 2 and 1, with 4 ahead of 1.
FOUR = [[0, 1, 4, 5], [4, 5, 1, 0], [0, 4, 1, 5]]
FOUR_PAPER = ("four", [2, 1], [0, 1, 5, 4])

RIGHT = [(ON_LINE, ("line", [3, 1, 0, 4])), (THREE, THREE_PAPER), (FOUR, FOUR_PAPER)]


class LetBy(unittest.TestCase):

    def test_right_papers(self):
        for folk, paper in RIGHT:
            with self.subTest(paper=paper):
                self.assertIsNone(judged(folk, paper))
                self.assertIsNone(judged_by_words(folk, paper))

    def test_a_line_from_either_end(self):
        self.assertIsNone(judged(ON_LINE, ("line", [4, 0, 1, 3])))
        self.assertIsNone(judged([LINE], ("line", LINE)))
        self.assertIsNone(judged([LINE, LINE[::-1]] * 10, ("line", LINE[::-1])))

    def test_hands_and_names_of_three_in_any_order(self):
        for places in permutations(range(3)):
            hands = [THREE_PAPER[1][place] for place in places]
            names = [THREE_PAPER[2][place] for place in places]
            self.assertIsNone(judged(THREE, ("three", hands, names)))

    def test_four_told_from_the_other_hand(self):
        self.assertIsNone(judged(FOUR, ("four", [1, 2], [5, 1, 0, 4])))

    def test_one_hand_alone(self):
        for line in orders([2, 0, 5]):
            expected = None if line in ([0, 2, 5], [2, 0, 5], [5, 0, 2], [5, 2, 0]) else ("falls", 0)
            self.assertEqual(judged([[2, 0, 5]], ("line", line)), expected)
        self.assertEqual(judged([[2, 0, 5]], ("three", [0, 0, 0], [2, 0, 5])), ("three",))
        self.assertEqual(judged([[2, 0, 5, 1]], ("four", [0, 0], [2, 0, 5, 1])), ("four",))
        self.assertEqual(judged([[2, 0, 5, 1]], ("four", [0, 1], [2, 0, 5, 1])), ("four",))

    def test_one_name_alone(self):
        for many in (1, 2, 20):
            folk = [[6]] * many
            self.assertIsNone(judged(folk, ("line", [6])))
            for line in ([0], [], [6, 6], [True], [7], (6,), 6):
                self.assertEqual(judged(folk, ("line", line)), ("line",))
            self.assertEqual(judged(folk, ("three", [0, 1, 2], [6, 6, 6])), ("three",))
            self.assertEqual(judged(folk, ("four", [0, 1], [6, 6, 6, 6])), ("four",))

    def test_long_names(self):
        folk = [[LONGEST, 0, LONGEST - 1], [LONGEST - 1, 0, LONGEST], [LONGEST, LONGEST - 1, 0]]
        self.assertIsNone(judged(folk[:2], ("line", [LONGEST, 0, LONGEST - 1])))
        self.assertEqual(judged(folk, ("line", [LONGEST, 0, LONGEST - 1])), ("falls", 2))
        self.assertIsNone(judged(folk, ("three", [2, 0, 1], [0, LONGEST - 1, LONGEST])))

    def test_twenty_hands_and_ten_names(self):
        folk = some_on_line(random.Random(3), LINE, 20)
        self.assertIsNone(judged(folk, ("line", LINE)))
        self.assertIsNone(judged(folk, ("line", LINE[::-1])))
        folk = [TEN] * 17 + [[1, 2, 0] + TEN[3:], [2, 0, 1] + TEN[3:], TEN]
        self.assertIsNone(judged(folk, ("three", [18, 17, 19], [1, 0, 2])))
        self.assertEqual(judged(folk, ("three", [18, 17, 19], [1, 2, 0])), ("last", 1))
        folk = [TEN] * 19 + [[9, 8, 5, 2, 3, 4, 6, 7, 1, 0]]
        self.assertIsNone(judged(folk, ("four", [0, 19], [0, 6, 8, 5])))


class Told(unittest.TestCase):

    def test_no_paper(self):
        for folk, paper in RIGHT:
            for thing in bent_papers(paper, ("row", "apart", "cross", "order", "tree", "gone", "paper", "falls")):
                with self.subTest(thing=thing):
                    self.assertEqual(judged(folk, thing), ("paper",))

    def test_words_that_ask_for_other_many_things(self):
        for folk, (_, *rest) in RIGHT:
            for word in ("line", "three", "four"):
                for many in range(5):
                    things = (word,) + tuple((rest * 3)[:many])
                    if many != (1 if word == "line" else 2):
                        self.assertEqual(judged(folk, things), ("paper",), things)

    def test_no_paper_ahead_of_what_stands_in_it(self):
        for thing in ODD_THINGS:
            self.assertEqual(judged(ON_LINE, ("line", thing, thing)), ("paper",))
            self.assertEqual(judged(ON_LINE, ("three", thing)), ("paper",))
            self.assertEqual(judged(ON_LINE, ("four", thing, thing, thing)), ("paper",))
            self.assertEqual(judged(ON_LINE, (thing, [0, 1], [0])), ("paper",))

    def test_no_line(self):
        for line in bent_lists([3, 1, 0, 4], [0, 1, 3, 4]):
            with self.subTest(line=line):
                self.assertEqual(judged(ON_LINE, ("line", line)), ("line",))
        for line in bent_lists([0, 1], [0, 1]):
            self.assertEqual(judged([[1, 0]], ("line", line)), ("line",))
        for line in bent_lists(TEN, TEN):
            self.assertEqual(judged([LINE] * 20, ("line", line)), ("line",))

    def test_the_first_hand_whose_ranking_does_not_fall(self):
        fallen, others = [[0, 1, 2], [1, 2, 0], [2, 1, 0]], [[0, 2, 1], [2, 0, 1]]
        for many in range(1, 5):
            for chosen in product(fallen + others, repeat=many):
                folk = [list(ranking) for ranking in chosen]
                wrong = [hand for hand in range(many) if folk[hand] in others]
                expected = ("falls", wrong[0]) if wrong else None
                self.assertEqual(judged(folk, ("line", [0, 1, 2])), expected)
        self.assertEqual(judged([LINE] * 19 + [TEN], ("line", LINE)), ("falls", 19))
        self.assertEqual(judged([TEN] + [LINE] * 19, ("line", LINE)), ("falls", 0))

    def test_no_hands_or_no_names(self):
        for folk, (word, hands, names) in RIGHT[1:]:
            wrong_names = bent_lists(names, sorted(folk[0]))
            for thing in bent_lists(hands, list(range(len(folk)))):
                with self.subTest(hands=thing):
                    self.assertEqual(judged(folk, (word, thing, names)), (word,))
                    self.assertEqual(judged(folk, (word, thing, wrong_names[0])), (word,))
            for thing in wrong_names:
                with self.subTest(names=thing):
                    self.assertEqual(judged(folk, (word, hands, thing)), (word,))

    def test_lists_of_another_word(self):
        self.assertEqual(judged(THREE, ("four", *THREE_PAPER[1:])), ("four",))
        self.assertEqual(judged(FOUR, ("three", *FOUR_PAPER[1:])), ("three",))

    def test_hands_beyond_the_folk(self):
        for many in (3, 19, 20):
            folk = (THREE * 5)[:many]
            for hand in (many, many + 1, -1, -many, LONGEST):
                self.assertEqual(judged(folk, ("three", [0, 1, hand], [0, 1, 4])), ("three",))
                self.assertEqual(judged(folk, ("four", [hand, 0], [0, 1, 4, 7])), ("four",))

    def test_the_first_name_that_is_not_last(self):
        for hands, names, expected in (
                ([3, 0, 2], [0, 1, 4], None), ([3, 0, 2], [1, 0, 4], ("last", 0)), ([3, 2, 0], [0, 1, 4], ("last", 1)),
                ([3, 0, 1], [0, 1, 4], ("last", 2)), ([0, 2, 3], [0, 1, 4], ("last", 0)),
                ([3, 0, 2], [0, 4, 1], ("last", 1)), ([1, 0, 2], [1, 0, 4], ("last", 1)),
                ([3, 0, 1], [0, 4, 1], ("last", 1)), ([1, 0, 3], [1, 4, 7], ("last", 1))):
            self.assertEqual(judged(THREE, ("three", hands, names)), expected)

    def test_the_first_of_the_four_s_sayings(self):
        # In each folk just one of the sayings isn't so, or none but this one and later ones.
        right = [[0, 3, 1, 2], [2, 3, 1, 0]]
        self.assertIsNone(judged(right, ("four", [0, 1], [0, 1, 2, 3])))
        for k, first, second in (
                (0, [3, 1, 0, 2], [2, 3, 1, 0]), (1, [0, 3, 2, 1], [2, 3, 1, 0]), (2, [0, 3, 1, 2], [3, 1, 2, 0]),
                (3, [0, 3, 1, 2], [2, 0, 3, 1]), (4, [0, 1, 3, 2], [2, 3, 1, 0]), (5, [0, 3, 1, 2], [2, 1, 3, 0]),
                (0, [2, 1, 3, 0], [0, 1, 2, 3]), (1, [0, 2, 1, 3], [0, 1, 2, 3]), (2, [0, 1, 2, 3], [0, 1, 2, 3]),
                (3, [0, 1, 2, 3], [0, 2, 1, 3]), (4, [0, 1, 2, 3], [2, 1, 0, 3])):
            self.assertEqual(judged([first, second], ("four", [0, 1], [0, 1, 2, 3])), ("ahead", k))

    def test_all_papers_of_few_hands_and_names(self):
        chance = random.Random(11)
        for names, hands in (([0, 1, 2], 3), ([5, 0, 2, 1], 3), ([5, 0, 2, 1], 2), ([3], 3), ([1, 0], 3)):
            papers = None
            for _ in range(12):
                folk = [chance.sample(names, len(names)) for _ in range(hands)]
                papers = papers or all_line_papers(folk)
                for paper in papers:
                    self.assertEqual(judged(folk, paper), judged_by_words(folk, paper), (folk, paper))

    def test_lists_of_any_numbers(self):
        folk = [[0, 2, 1, 3], [3, 2, 1, 0]]
        for hands in product(range(-1, 3), repeat=2):
            for names in product((0, 1, 2, 3), repeat=4):
                paper = ("four", list(hands), list(names))
                self.assertEqual(judged(folk, paper), judged_by_words(folk, paper), paper)
        for line in product((0, 1, 2, 3), repeat=4):
            self.assertEqual(judged(folk, ("line", list(line))), judged_by_words(folk, ("line", list(line))))

    def test_what_is_told_are_tuples_of_a_word_and_of_numbers_that_are_no_truths(self):
        asked = [(ON_LINE, None), (ON_LINE, ("line", [])), (THREE, ("three", [], [])), (FOUR, ("four", [], []))]
        asked += [([[0, 1, 2], [0, 2, 1]], ("line", [0, 1, 2])), ([[0, 2, 1]], ("line", [0, 1, 2]))]
        asked += [(THREE, ("three", hands, [0, 1, 4])) for hands in ([0, 1, 2], [3, 1, 2], [3, 2, 0], [3, 0, 1])]
        asked += [([list(one), list(other)], ("four", [0, 1], [0, 1, 2, 3]))
                  for one in permutations(range(4)) for other in permutations(range(4))]
        found = set()
        for folk, paper in asked:
            told = judged(folk, paper)
            if told is not None:
                self.assertIs(type(told), tuple)
                self.assertIs(type(told[0]), str)
                self.assertEqual([number for number in numbers_in(told) if type(number) is not int], [])
                found.add(told)
        self.assertLessEqual({("paper",), ("line",), ("three",), ("four",), ("falls", 0), ("falls", 1), ("last", 0),
                              ("last", 1), ("last", 2)} | {("ahead", k) for k in range(6)}, found)


class NeverBoth(unittest.TestCase):

    def test_no_line_and_bar_of_three_hands(self):
        for names, step in (([0, 1, 2], 1), ([0, 1, 2, 3], 7)):
            papers = None
            for one, other in list(product(orders(names), repeat=2))[::step]:
                folk = [names, one, other]
                papers = papers or all_line_papers(folk)
                self.assert_lines_or_bars(folk, papers)

    def test_no_line_and_bar_of_two_hands(self):
        papers = None
        for other in orders([0, 1, 2, 3]):
            folk = [[0, 1, 2, 3], other]
            papers = papers or all_line_papers(folk)
            self.assert_lines_or_bars(folk, papers)

    def assert_lines_or_bars(self, folk, papers):
        let_by = {paper[0] == "line" for paper in papers if judged(folk, paper) is None}
        self.assertEqual(len(let_by), 1, folk)


class Refused(unittest.TestCase):

    def test_what_is_no_folk_ahead_of_the_paper(self):
        for thing in NO_FOLKS:
            for paper in [("line", [0, 1]), ("line", [0]), THREE_PAPER, FOUR_PAPER, ("line", []), ("paper",),
                          *ODD_THINGS]:
                with self.subTest(thing=thing, paper=paper), refused(self, "NoFolk"):
                    judged(thing, paper)


class Own(unittest.TestCase):

    def test_what_is_handed_in_stays_as_it_was(self):
        for folk, paper in RIGHT:
            check_own(self, judged, folk, paper)
            check_own(self, judged, folk, list(paper))
            check_own(self, judged, folk, (paper[0], *[part[::-1] for part in paper[1:]]))
            check_own(self, judged, folk, (paper[0], *[part[:-1] for part in paper[1:]]))
            check_own(self, judged, folk[:1], paper)
        same = [2, 0, 1, 3]
        check_own(self, judged, [same, same], ("line", same))
        check_own(self, judged, [same, same], ("four", same[:2], same))

    def test_asked_again_of_what_was_changed_meanwhile(self):
        folk, line = [[0, 1, 2], [1, 2, 0]], [0, 1, 2]
        self.assertIsNone(judged(folk, ("line", line)))
        folk[1].reverse()
        self.assertEqual(judged(folk, ("line", line)), ("falls", 1))
        line.reverse()
        self.assertEqual(judged(folk, ("line", line)), ("falls", 1))
        line.append(3)
        self.assertEqual(judged(folk, ("line", line)), ("line",))

    def test_is_told_soon(self):
        folk = some_on_line(random.Random(4), LINE, 20)
        start = time.monotonic()
        for _ in range(300):
            judged(folk, ("line", LINE))
            judged(folk, ("three", [17, 18, 19], [7, 8, 9]))
            judged(folk, ("four", [0, 19], [0, 1, 2, 3]))
        self.assertLess(time.monotonic() - start, 10)


if __name__ == "__main__":
    unittest.main()
