"""Point 12, with points 2, 3 and 4 for it: ontheline.builder."""

import random
import time
import unittest
from itertools import combinations, product

from by_words import all_lines_by_words, judged_by_words
from ontheline.builder import built
from ontheline.judge import judged
from samples import (
    LONGEST, NO_FOLKS, check_own, frozen, inner_lists, numbers_in, orders, refused, some_along_row, some_on_line)

TEN = list(range(10))
LINE = [5, 0, 9, 2, 7, 1, 8, 3, 6, 4]


class Built(unittest.TestCase):

    def assert_let_by(self, folk):
        """The paper that is told of a folk is let by; its word is told on."""
        paper = built(folk)
        self.assertIsNone(judged_by_words(folk, paper), (folk, paper))
        self.assertIsNone(judged(folk, paper), (folk, paper))
        self.assertEqual([number for number in numbers_in(paper) if type(number) is not int], [])
        return paper[0]

    def assert_line_or_bar(self, folk):
        """A line is told just where there is one, of all orders of the names."""
        word = self.assert_let_by(folk)
        self.assertEqual(word == "line", bool(all_lines_by_words(folk)), folk)
        return word

    def test_ordinary(self):
        word, line = built([[0, 1, 2], [2, 1, 0]])
        self.assertEqual(word, "line")
        self.assertIn(line, ([0, 1, 2], [2, 1, 0]))
        word, hands, names = built([[0, 1, 2], [1, 2, 0], [2, 0, 1]])
        self.assertEqual(word, "three")
        self.assertEqual(sorted(zip(hands, names)), [(0, 2), (1, 0), (2, 1)])
        word, hands, names = built([[0, 3, 1, 2], [2, 3, 1, 0]])
        self.assertEqual(word, "four")
        self.assertIn((hands, names), (([0, 1], [0, 1, 2, 3]), ([1, 0], [2, 1, 0, 3])))

    def test_one_hand_and_one_name(self):
        self.assertEqual(built([[6]]), ("line", [6]))
        self.assertEqual(built([[6]] * 20), ("line", [6]))
        for ranking in ([6, 2], [2, 0, 5], [3, 1, 0, 2], LINE):
            self.assertEqual(self.assert_let_by([ranking]), "line")
            self.assertEqual(self.assert_let_by([ranking, ranking[::-1]]), "line")
        for folk in product(([6, 2], [2, 6]), repeat=4):
            self.assertEqual(self.assert_let_by(list(folk)), "line")

    def test_all_folks_of_three_names(self):
        for many in range(1, 4):
            for folk in product(orders([4, 0, 7]), repeat=many):
                lasts = {ranking[-1] for ranking in folk}
                self.assertEqual(self.assert_line_or_bar(list(folk)), "three" if len(lasts) == 3 else "line")

    def test_all_folks_of_two_hands_and_four_names(self):
        words = {"line": 0, "four": 0}
        for folk in product(orders([2, 0, 3, 1]), repeat=2):
            words[self.assert_line_or_bar(list(folk))] += 1
        self.assertGreater(min(words.values()), 0)

    def test_three_hands_and_four_names(self):
        words = {"line": 0, "three": 0, "four": 0}
        for one, other in list(product(orders([0, 1, 2, 3]), repeat=2))[::3]:
            words[self.assert_line_or_bar([[0, 1, 2, 3], one, other])] += 1
        self.assertGreater(min(words.values()), 0)

    def test_few_hands_and_names(self):
        chance = random.Random(21)
        words = {"line": 0, "three": 0, "four": 0}
        for _ in range(250):
            names = chance.sample(range(30), chance.randint(4, 6))
            some = some_on_line(chance, names, chance.randint(2, 5))
            if chance.random() < 0.7:
                at = chance.randrange(1, len(names))
                ranking = list(chance.choice(some))
                ranking[at - 1], ranking[at] = ranking[at], ranking[at - 1]
                some.insert(chance.randint(0, len(some)), ranking)
            words[self.assert_line_or_bar(some)] += 1
        self.assertGreater(min(words.values()), 4)

    def test_each_bar_of_three_among_others(self):
        # All other rankings are alike, and the three are unlike them at three names alone.
        for places in combinations(range(6), 3):
            for names in combinations(range(5), 3):
                folk = [[0, 1, 2, 3, 4] for _ in range(6)]
                for turn, hand in enumerate(places):
                    rest = [name for name in range(5) if name not in names]
                    folk[hand] = list(names[turn:] + names[:turn]) + rest
                self.assertNotEqual(self.assert_let_by(folk), "line")

    def test_each_bar_of_four_among_others(self):
        for places in combinations(range(5), 2):
            for a, b, c, d in ([0, 1, 2, 3], [3, 1, 0, 2], [2, 0, 1, 3], [4, 0, 2, 1]):
                rest = [name for name in range(5) if name not in (a, b, c, d)]
                first, second = [a, d, b, c] + rest, [c, d, b, a] + rest
                folk = [list(first) for _ in range(5)]
                folk[places[1]] = second
                self.assertEqual(self.assert_let_by(folk), "four")
                self.assertEqual(self.assert_let_by(folk[::-1]), "four")

    def test_rankings_told_again(self):
        chance = random.Random(22)
        bars = ([[0, 1, 2], [1, 2, 0], [2, 0, 1]], [[0, 3, 1, 2], [2, 3, 1, 0]])
        for some in bars + (some_on_line(chance, TEN, 3),):
            expected = self.assert_let_by(some)
            self.assertEqual(self.assert_let_by(some + some + some), expected)
            self.assertEqual(self.assert_let_by([one for one in some for _ in range(5)]), expected)
            self.assertEqual(self.assert_let_by([some[0]] * 10 + some), expected)
            self.assertEqual(self.assert_let_by(some + [some[-1]] * 10), expected)

    def test_twenty_hands_that_fall_on_a_line_of_ten_names(self):
        chance = random.Random(23)
        for _ in range(12):
            line = chance.sample(range(100), 10)
            self.assertEqual(self.assert_let_by(some_on_line(chance, line, 20)), "line")
        self.assertEqual(self.assert_let_by([LINE, LINE[::-1]] * 10), "line")

    def test_twenty_hands_all_but_one_of_which_fall(self):
        # Both ends of the line are told, so that it is the only one, from either end.
        chance = random.Random(24)
        for hand in range(20):
            line = chance.sample(range(100), 10)
            folk = [line, line[::-1]] + some_on_line(chance, line, 17)
            chance.shuffle(folk)
            at = chance.randrange(1, 9)
            folk.insert(hand, line[:at] + line[at + 1:] + [line[at]])
            self.assertNotEqual(self.assert_let_by(folk), "line")

    def test_any_twenty_hands_and_ten_names(self):
        chance = random.Random(25)
        for many in (2, 3, 5, 20):
            for _ in range(20):
                self.assert_let_by([chance.sample(TEN, 10) for _ in range(many)])
            for _ in range(5):
                self.assert_let_by(some_along_row(chance, TEN, many))

    def test_long_names(self):
        names = [LONGEST, 0, LONGEST - 1, 10 ** 29]
        self.assertEqual(self.assert_let_by(some_on_line(random.Random(26), names, 5)), "line")
        self.assertEqual(self.assert_let_by([names, [names[2], names[0], names[1], names[3]], names[::-1]]), "three")


class Refused(unittest.TestCase):

    def test_what_is_no_folk(self):
        for thing in NO_FOLKS:
            with self.subTest(thing=thing), refused(self, "NoFolk"):
                built(thing)


class Own(unittest.TestCase):

    def test_what_is_told_is_the_asker_s_own(self):
        ranking = [2, 0, 1, 3]
        for folk in ([[6]], [ranking], [ranking, ranking, ranking], [ranking, ranking[::-1]],
                     [[0, 1, 2], [1, 2, 0], [2, 0, 1]], [[0, 3, 1, 2], [2, 3, 1, 0]], [LINE] * 20):
            check_own(self, built, folk)

    def test_what_was_handed_in_may_be_changed_behind(self):
        for folk in ([[0, 1, 2], [2, 1, 0]], [[0, 1, 2], [1, 2, 0], [2, 0, 1]], [[0, 3, 1, 2], [2, 3, 1, 0]]):
            told = built(folk)
            picture = frozen(told)
            for part in inner_lists(folk):
                part.clear()
            self.assertEqual(frozen(told), picture)

    def test_is_told_soon(self):
        chance = random.Random(27)
        folks = [some_on_line(chance, LINE, 20) for _ in range(20)] + [[LINE] * 20] * 10
        folks += [[LINE, LINE[::-1]] + some_on_line(chance, LINE, 17) + [chance.sample(TEN, 10)] for _ in range(20)]
        folks += [[chance.sample(TEN, 10) for _ in range(20)] for _ in range(20)]
        start = time.monotonic()
        for folk in folks:
            built(folk)
        self.assertLess(time.monotonic() - start, 20)


if __name__ == "__main__":
    unittest.main()
