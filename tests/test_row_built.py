"""Point 15, with points 2, 3 and 4 for it: row_built of ontheline.rows."""

import random
import time
import unittest
from itertools import combinations, permutations, product

from by_words import all_rows, row_judged_by_words
from ontheline.rows import row_built, row_judged
from samples import (
    LONGEST, NO_FOLKS, check_own, frozen, inner_lists, numbers_in, orders, refused, some_along_row, some_on_line,
    way_of_exchanges)

TEN = list(range(10))
MIXED = [5, 0, 9, 2, 7, 1, 8, 3, 6, 4]


def unlike_by_words(one, other):
    return sum((one.index(a) < one.index(b)) != (other.index(a) < other.index(b)) for a, b in combinations(one, 2))


def shuffled(chance, things):
    return chance.sample(things, len(things))


class RowBuilt(unittest.TestCase):

    def assert_let_by(self, folk):
        """The paper that is told of a folk is let by; its word is told on."""
        paper = row_built(folk)
        self.assertIsNone(row_judged_by_words(folk, paper), (folk, paper))
        self.assertIsNone(row_judged(folk, paper), (folk, paper))
        self.assertEqual([number for number in numbers_in(paper) if type(number) is not int], [])
        if paper[0] == "row":
            self.assert_ever_more_unlike(folk, paper[1])
        return paper[0]

    def assert_ever_more_unlike(self, folk, row):
        rankings = [folk[hand] for hand in row]
        counts = [unlike_by_words(rankings[0], ranking) for ranking in rankings]
        for at in range(1, len(row)):
            if rankings[at] == rankings[at - 1]:
                self.assertEqual(counts[at], counts[at - 1])
            else:
                self.assertGreater(counts[at], counts[at - 1])

    def assert_row_or_bar(self, folk):
        """A row is told just where there is one, of all orders of the hands, and each other one tells the same."""
        word = self.assert_let_by(folk)
        rows = all_rows(folk)
        self.assertEqual(word == "row", bool(rows), folk)
        if rows:
            rankings = [folk[hand] for hand in row_built(folk)[1]]
            for row in rows:
                self.assertIn([folk[hand] for hand in row], (rankings, rankings[::-1]))
                self.assert_ever_more_unlike(folk, row)
        return word

    def test_ordinary(self):
        word, row = row_built([[0, 1, 2], [2, 1, 0], [1, 0, 2]])
        self.assertEqual(word, "row")
        self.assertIn(row, ([0, 2, 1], [1, 2, 0]))
        word, hands, pairs = row_built([[0, 1, 2], [1, 2, 0], [2, 0, 1]])
        self.assertEqual(word, "apart")
        self.assertEqual(sorted(zip(hands, pairs)), [(0, [0, 2]), (1, [1, 0]), (2, [2, 1])])
        word, hands, pairs = row_built([[0, 1, 2, 3], [0, 1, 3, 2], [1, 0, 2, 3], [1, 0, 3, 2]])
        self.assertEqual(word, "cross")
        self.assertEqual(sorted(sorted(pair) for pair in pairs), [[0, 1], [2, 3]])

    def test_one_hand_and_one_name(self):
        for ranking in ([6], [6, 2], [2, 0, 5], MIXED):
            self.assertEqual(row_built([ranking]), ("row", [0]))
            self.assertEqual(self.assert_let_by([ranking, ranking[::-1]]), "row")
            self.assertEqual(self.assert_row_or_bar([ranking] * 4), "row")
            self.assertEqual(self.assert_let_by([ranking] * 20), "row")
        for many in range(1, 6):
            for folk in product(([6, 2], [2, 6]), repeat=many):
                self.assertEqual(self.assert_row_or_bar(list(folk)), "row")

    def test_all_folks_of_three_names(self):
        words = {"row": 0, "apart": 0}
        for many in range(1, 4):
            for folk in product(orders([4, 0, 7]), repeat=many):
                words[self.assert_row_or_bar(list(folk))] += 1
        self.assertGreater(min(words.values()), 0)

    def test_four_hands_and_three_names(self):
        for rest in list(product(orders([0, 1, 2]), repeat=3))[::2]:
            self.assert_row_or_bar([[0, 1, 2], *rest])

    def test_three_hands_and_four_names(self):
        words = {"row": 0, "apart": 0}
        for one, other in list(product(orders([2, 0, 3, 1]), repeat=2))[::2]:
            words[self.assert_row_or_bar([[2, 0, 3, 1], one, other])] += 1
        self.assertGreater(min(words.values()), 0)

    def test_few_hands_along_a_row_in_any_order(self):
        chance = random.Random(41)
        for _ in range(60):
            names = chance.sample(range(30), chance.randint(2, 6))
            folk = some_along_row(chance, names, chance.randint(1, 6))
            self.assertEqual(self.assert_row_or_bar(shuffled(chance, folk)), "row")

    def test_all_orders_of_the_hands_of_one_row(self):
        way = [[0, 1, 2, 3], [1, 0, 2, 3], [1, 0, 2, 3], [1, 2, 3, 0], [3, 2, 1, 0]]
        for folk in permutations(way):
            word, row = row_built(list(folk))
            self.assertEqual(word, "row")
            self.assertIn([folk[hand] for hand in row], (way, way[::-1]))

    def test_few_hands_one_of_which_lies_beside_the_row(self):
        chance = random.Random(42)
        words = {"row": 0, "apart": 0, "cross": 0}
        for _ in range(150):
            names = chance.sample(range(30), chance.randint(4, 5))
            folk = some_along_row(chance, names, chance.randint(3, 5))
            ranking = list(chance.choice(folk))
            at = chance.randrange(1, len(names))
            ranking[at - 1], ranking[at] = ranking[at], ranking[at - 1]
            words[self.assert_row_or_bar(shuffled(chance, folk + [ranking]))] += 1
        self.assertGreater(words["row"], 4)
        self.assertGreater(words["apart"], 4)

    def test_any_few_hands(self):
        chance = random.Random(43)
        words = {"row": 0, "apart": 0, "cross": 0}
        for _ in range(150):
            # Each two neighbours stand as they are or exchanged: crosses, and hands that are apart.
            names = chance.sample(range(30), 6)
            folk = []
            for _ in range(chance.randint(3, 5)):
                pairs = [names[0:2], names[2:4], names[4:6]]
                folk.append([name for pair in pairs for name in (pair if chance.random() < 0.5 else pair[::-1])])
            words[self.assert_row_or_bar(folk)] += 1
        self.assertGreater(min(words.values()), 4)

    def test_each_cross_among_others(self):
        corners = [[0, 1, 2, 3], [0, 1, 3, 2], [1, 0, 2, 3], [1, 0, 3, 2]]
        for folk in permutations(corners):
            self.assertEqual(self.assert_row_or_bar(list(folk)), "cross")
        for places in combinations(range(7), 4):
            folk = [list(corners[places[0] % 4]) for _ in range(7)]
            for place, corner in zip(places, corners):
                folk[place] = corner
            self.assertEqual(self.assert_let_by(folk), "cross")

    def test_each_three_that_are_apart_among_others(self):
        three = [[1, 0, 2, 3, 4, 5], [0, 1, 3, 2, 4, 5], [0, 1, 2, 3, 5, 4]]
        for folk in permutations(three):
            self.assertEqual(self.assert_row_or_bar(list(folk)), "apart")
        for places in combinations(range(6), 3):
            folk = [[0, 1, 2, 3, 4, 5] for _ in range(6)]
            for place, ranking in zip(places, three):
                folk[place] = ranking
            self.assertNotEqual(self.assert_let_by(folk), "row")

    def test_rankings_told_again(self):
        chance = random.Random(44)
        bars = ([[0, 1, 2], [1, 2, 0], [2, 0, 1]], [[0, 1, 2, 3], [0, 1, 3, 2], [1, 0, 2, 3], [1, 0, 3, 2]])
        for some in bars + (some_along_row(chance, TEN, 4),):
            expected = self.assert_let_by(some)
            self.assertEqual(self.assert_let_by(some + some + some), expected)
            self.assertEqual(self.assert_let_by([one for one in some for _ in range(4)]), expected)
            self.assertEqual(self.assert_let_by([some[1]] * 10 + some), expected)
            self.assertEqual(self.assert_let_by(some + [some[-1]] * 10), expected)

    def test_twenty_hands_along_a_row_of_ten_names(self):
        chance = random.Random(45)
        for _ in range(20):
            folk = some_along_row(chance, chance.sample(range(100), 10), 20)
            expected = [list(ranking) for ranking in folk]
            folk = shuffled(chance, folk)
            self.assertEqual(self.assert_let_by(folk), "row")
            self.assertIn([folk[hand] for hand in row_built(folk)[1]], (expected, expected[::-1]))

    def test_twenty_hands_all_but_one_of_which_stand_along_a_row(self):
        # A ranking and its turning stand at the ends, as they are unlike at all names. So no two
        # rankings stand between them that are unlike the one end at as many names, but not the same.
        chance = random.Random(46)
        for _ in range(20):
            start = chance.sample(TEN, 10)
            way = way_of_exchanges(chance, start, start[::-1])
            at = chance.randrange(1, len(way) - 1)
            beside = way[at]
            while beside == way[at]:
                beside = way_of_exchanges(chance, start, start[::-1])[at]
            along = [start, start[::-1], way[at]] + chance.choices(way, k=16)
            self.assertEqual(self.assert_let_by(shuffled(chance, along)), "row")
            self.assertNotEqual(self.assert_let_by(shuffled(chance, along + [beside])), "row")

    def test_any_twenty_hands_and_ten_names(self):
        chance = random.Random(47)
        for many in (2, 3, 4, 20):
            for _ in range(20):
                self.assert_let_by([chance.sample(TEN, 10) for _ in range(many)])
            for _ in range(5):
                self.assert_let_by(some_on_line(chance, MIXED, many))

    def test_long_names(self):
        names = [LONGEST, 0, LONGEST - 1, 10 ** 29]
        chance = random.Random(48)
        self.assertEqual(self.assert_let_by(shuffled(chance, some_along_row(chance, names, 6))), "row")
        self.assertEqual(self.assert_let_by([names[at:] + names[:at] for at in range(4)]), "apart")


class Refused(unittest.TestCase):

    def test_what_is_no_folk(self):
        for thing in NO_FOLKS:
            with self.subTest(thing=thing), refused(self, "NoFolk"):
                row_built(thing)


class Own(unittest.TestCase):

    FOLKS = ([[6]], [[2, 0, 1, 3]] * 3, [[2, 0, 1], [1, 0, 2], [0, 2, 1]], [[0, 1, 2], [1, 2, 0], [2, 0, 1]],
             [[0, 1, 2, 3], [0, 1, 3, 2], [1, 0, 2, 3], [1, 0, 3, 2]], [MIXED] * 20, [[3, 1], [1, 3]] * 2)

    def test_what_is_told_is_the_asker_s_own(self):
        for folk in self.FOLKS:
            check_own(self, row_built, [list(ranking) for ranking in folk])
        same = [2, 0, 1, 3]
        check_own(self, row_built, [same, same, same[::-1], same])

    def test_what_was_handed_in_may_be_changed_behind(self):
        for some in self.FOLKS:
            folk = [list(ranking) for ranking in some]
            told = row_built(folk)
            picture = frozen(told)
            for part in inner_lists(folk):
                part.clear()
            self.assertEqual(frozen(told), picture)

    def test_is_told_soon(self):
        chance = random.Random(49)
        folks = [shuffled(chance, some_along_row(chance, TEN, 20)) for _ in range(20)] + [[MIXED] * 20] * 10
        folks += [shuffled(chance, some_along_row(chance, TEN, 19) + [chance.sample(TEN, 10)]) for _ in range(20)]
        folks += [[chance.sample(TEN, 10) for _ in range(20)] for _ in range(20)]
        # A cross with no three hands apart: all of them are gone through.
        corners = [TEN, TEN[:8] + [9, 8], [1, 0] + TEN[2:], [1, 0] + TEN[2:8] + [9, 8]]
        folks += [corners * 5] * 10
        start = time.monotonic()
        for folk in folks:
            row_built(folk)
        self.assertLess(time.monotonic() - start, 20)


if __name__ == "__main__":
    unittest.main()
