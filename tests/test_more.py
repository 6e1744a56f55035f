"""Points 16 to 18, with points 2, 3 and 4 for them: ontheline.more."""

import random
import time
import unittest
from itertools import permutations, product

from by_words_more import (
    margin_by_words, middle_by_words, order_judged_by_words, orders_by_words, unbeaten_by_words)
from ontheline.more import margin, middle, order_judged, order_of, unbeaten
from samples import (
    LONGEST, NO_FOLKS, NO_RANKINGS, ODD_THINGS, bent_lists, bent_papers, check_own, folk_that_beats, frozen,
    inner_lists, no_weights, numbers_in, orders, refused, some_on_line, some_weights)

TEN = list(range(10))
LINE = [5, 0, 9, 2, 7, 1, 8, 3, 6, 4]

# By the weights 2, 3 and 4 the name 0 beats 7, 7 beats 4, and 4 beats 0; 9 is beaten by all.
ROUND = [[0, 7, 4, 9], [7, 4, 0, 9], [4, 0, 7, 9]]
ROUND_WEIGHTS = [2, 3, 4]
RING_PAPER = ("ring", [7, 4, 0])
# 3 beats 5, 5 beats 1; neither of 3 and 1 beats the other one.
EVEN = [[3, 5, 1], [5, 1, 3], [1, 3, 5]]
EVEN_WEIGHTS = [3, 2, 1]
ORDER_PAPER = ("order", [3, 5, 1])

RIGHT = [(ROUND, ROUND_WEIGHTS, RING_PAPER), (EVEN, EVEN_WEIGHTS, ORDER_PAPER)]


def any_folk(chance, most_names, most_hands):
    names = chance.sample(range(30), chance.randint(1, most_names))
    return [chance.sample(names, len(names)) for _ in range(chance.randint(1, most_hands))]


class Margin(unittest.TestCase):

    def assert_margins(self, folk, weights):
        for one, other in permutations(folk[0], 2):
            told = margin(folk, weights, one, other)
            self.assertIs(type(told), int)
            self.assertEqual(told, margin_by_words(folk, weights, one, other))
            self.assertEqual(margin(folk, weights, other, one), 0 - told)

    def test_ordinary(self):
        self.assertEqual(margin(ROUND, ROUND_WEIGHTS, 0, 7), 3)
        self.assertEqual(margin(ROUND, ROUND_WEIGHTS, 7, 0), -3)
        self.assertEqual(margin(ROUND, ROUND_WEIGHTS, 7, 4), 1)
        self.assertEqual(margin(ROUND, ROUND_WEIGHTS, 4, 0), 5)
        self.assertEqual(margin(ROUND, ROUND_WEIGHTS, 9, 4), -9)
        self.assertEqual(margin(EVEN, EVEN_WEIGHTS, 3, 1), 0)
        self.assertEqual(margin(EVEN, EVEN_WEIGHTS, 1, 3), 0)
        self.assertEqual(margin([[1, 0], [0, 1]], [1, 1], 0, 1), 0)

    def test_by_the_words(self):
        chance = random.Random(61)
        for _ in range(150):
            folk = any_folk(chance, 6, 6)
            self.assert_margins(folk, some_weights(chance, len(folk)))

    def test_one_hand_alone(self):
        for weight in (1, 2, 7, LONGEST):
            self.assert_margins([[4, 0, 7, 2]], [weight])
            self.assertEqual(margin([[4, 0, 7, 2]], [weight], 4, 2), weight)
            self.assertEqual(margin([[4, 0, 7, 2]], [weight], 7, 0), -weight)

    def test_twenty_hands_and_ten_names(self):
        chance = random.Random(62)
        for weights in ([1] * 20, [LONGEST] * 20, list(range(1, 21)), some_weights(chance, 20)):
            self.assert_margins([chance.sample(TEN, 10) for _ in range(20)], weights)
        self.assertEqual(margin([TEN] * 20, [1] * 20, 3, 8), 20)
        self.assertEqual(margin([TEN] * 20, [LONGEST] * 20, 8, 3), -20 * LONGEST)
        self.assertEqual(margin([TEN] * 19 + [TEN[::-1]], [1] * 19 + [LONGEST], 0, 9), 19 - LONGEST)

    def test_long_names(self):
        names = [LONGEST, 0, LONGEST - 1, 10 ** 29]
        self.assert_margins([names, names[::-1], names], [1, 5, 3])

    def test_no_names(self):
        for folk, weights in ((ROUND, ROUND_WEIGHTS), ([[4]], [3]), ([TEN], [1]), (EVEN, EVEN_WEIGHTS)):
            there = folk[0]
            wrong = [-1, 10, 11, LONGEST, max(there) + 1]
            for one in there:
                for other in [one] + wrong:
                    with self.subTest(one=one, other=other):
                        with refused(self, "NoNames"):
                            margin(folk, weights, one, other)
                        with refused(self, "NoNames"):
                            margin(folk, weights, other, one)
            for one, other in product(wrong, repeat=2):
                with refused(self, "NoNames"):
                    margin(folk, weights, one, other)


class OrderJudged(unittest.TestCase):

    def assert_judged(self, folk, weights, paper):
        """What is told of a paper is what the words tell; it is told on."""
        told = order_judged(folk, weights, paper)
        self.assertEqual(frozen(told), frozen(order_judged_by_words(folk, weights, paper)), (folk, weights, paper))
        if told is not None:
            self.assertIs(type(told), tuple)
            self.assertIs(type(told[0]), str)
            self.assertEqual([number for number in numbers_in(told) if type(number) is not int], [])
        self.assertEqual(order_judged(folk, weights, paper), told)
        return told

    def test_right_papers(self):
        for folk, weights, paper in RIGHT:
            self.assertIsNone(self.assert_judged(folk, weights, paper))
        for ring in ([7, 4, 0], [4, 0, 7], [0, 7, 4]):
            self.assertIsNone(self.assert_judged(ROUND, ROUND_WEIGHTS, ("ring", ring)))

    def test_one_name_alone(self):
        for many in (1, 2, 20):
            self.assertIsNone(self.assert_judged([[6]] * many, [2] * many, ("order", [6])))
            for names in ([], [6, 6], [0], [True], (6,), 6):
                self.assertEqual(self.assert_judged([[6]] * many, [2] * many, ("order", names)), ("order",))
            self.assertEqual(self.assert_judged([[6]] * many, [2] * many, ("ring", [6])), ("ring",))
            self.assertEqual(self.assert_judged([[6]] * many, [2] * many, ("ring", [6, 6, 6])), ("ring",))

    def test_no_paper(self):
        for folk, weights, paper in RIGHT:
            others = ("line", "row", "tree", "gone", "fixed", "paper", "ahead", "beats")
            for thing in bent_papers(paper, others):
                with self.subTest(thing=thing):
                    self.assertEqual(self.assert_judged(folk, weights, thing), ("paper",))
            for thing in ODD_THINGS:
                self.assertEqual(self.assert_judged(folk, weights, (thing, paper[1])), ("paper",))
                self.assertEqual(self.assert_judged(folk, weights, ("order", thing, thing)), ("paper",))
                self.assertEqual(self.assert_judged(folk, weights, ("ring", paper[1], thing)), ("paper",))
        self.assertEqual(order_judged(EVEN, EVEN_WEIGHTS, ("order",)), ("paper",))
        self.assertEqual(order_judged(EVEN, EVEN_WEIGHTS, ("ring",)), ("paper",))

    def test_no_order(self):
        for folk, weights, paper in RIGHT + [([TEN], [1], ("order", TEN))]:
            for names in bent_lists(sorted(folk[0]), sorted(folk[0])):
                with self.subTest(names=names):
                    self.assertEqual(self.assert_judged(folk, weights, ("order", names)), ("order",))

    def test_no_ring(self):
        for names in bent_lists([7, 4, 0], [7, 4, 0]):
            with self.subTest(names=names):
                self.assertEqual(self.assert_judged(ROUND, ROUND_WEIGHTS, ("ring", names)), ("ring",))
        folk = [[7, 4, 0]]
        for names in [[], [7], [4], [7, 4], [4, 0], [7, 7, 4], [7, 4, 7], [7, 4, 9], [7, 4, 0, 7]]:
            self.assertEqual(self.assert_judged(folk, [1], ("ring", names)), ("ring",))

    def test_a_ring_of_two_names_of_which_neither_beats_the_other(self):
        folk = [[0, 1, 2], [1, 0, 2]]
        self.assertEqual(self.assert_judged(folk, [1, 1], ("ring", [0, 1])), ("ring",))
        self.assertEqual(self.assert_judged(folk, [1, 2], ("ring", [1, 0])), ("ring",))

    def test_the_first_two_of_which_the_later_one_beats_the_earlier(self):
        folk, weights = [[0, 1, 2, 3]], [1]
        for names, expected in (
                ([0, 1, 2, 3], None), ([0, 1, 3, 2], ("ahead", 3, 2)), ([0, 2, 1, 3], ("ahead", 2, 1)),
                ([3, 2, 1, 0], ("ahead", 3, 2)), ([3, 0, 1, 2], ("ahead", 3, 0)), ([2, 3, 0, 1], ("ahead", 2, 0)),
                ([1, 2, 3, 0], ("ahead", 1, 0)), ([0, 3, 2, 1], ("ahead", 3, 2)), ([1, 3, 2, 0], ("ahead", 1, 0))):
            self.assertEqual(self.assert_judged(folk, weights, ("order", names)), expected)
        # Only the last one beats the first, and only the first beats the last: earliest first.
        folk = folk_that_beats([4, 2, 0, 1], [(1, 4)])
        self.assertEqual(self.assert_judged(folk, [1, 1], ("order", [4, 2, 0, 1])), ("ahead", 4, 1))
        self.assertEqual(self.assert_judged(folk, [1, 1], ("order", [2, 4, 0, 1])), ("ahead", 4, 1))
        self.assertIsNone(self.assert_judged(folk, [1, 1], ("order", [2, 1, 0, 4])))
        folk = folk_that_beats([4, 2, 0, 1], [(1, 2), (0, 4), (1, 4)])
        self.assertEqual(self.assert_judged(folk, [1] * 6, ("order", [4, 2, 1, 0])), ("ahead", 4, 1))
        self.assertEqual(self.assert_judged(folk, [1] * 6, ("order", [2, 4, 0, 1])), ("ahead", 2, 1))

    def test_the_first_name_of_a_ring_that_does_not_beat_the_next(self):
        for names, expected in (
                ([7, 4, 0], None), ([7, 0, 4], ("beats", 0)), ([0, 4, 7], ("beats", 0)), ([0, 7, 9], ("beats", 2)),
                ([7, 4, 0, 9], ("beats", 3)), ([7, 4, 9, 0], ("beats", 2)), ([9, 7, 4], ("beats", 0)),
                ([7, 9, 4], ("beats", 1)), ([4, 0, 9], ("beats", 2)), ([7, 4, 9], ("beats", 2))):
            self.assertEqual(self.assert_judged(ROUND, ROUND_WEIGHTS, ("ring", names)), expected)
        # Where neither beats the other one, there is no ring.
        folk = folk_that_beats([0, 1, 2], [(0, 1), (1, 2)])
        self.assertEqual(self.assert_judged(folk, [1] * 4, ("ring", [0, 1, 2])), ("beats", 2))
        self.assertEqual(self.assert_judged(folk, [1] * 4, ("ring", [2, 0, 1])), ("beats", 0))
        self.assertEqual(self.assert_judged(folk, [1] * 4, ("ring", [1, 2, 0])), ("beats", 1))

    def test_all_papers_of_few_names(self):
        chance = random.Random(63)
        for names, most in (([0, 1, 2], 4), ([5, 0, 2, 1], 5), ([5, 0, 2, 1], 3), ([3], 3), ([1, 0], 3)):
            for _ in range(8):
                folk = [chance.sample(names, len(names)) for _ in range(chance.randint(1, most))]
                weights = some_weights(chance, len(folk))
                for many in range(len(names) + 1):
                    for some in permutations(names, many):
                        self.assert_judged(folk, weights, ("order", list(some)))
                        self.assert_judged(folk, weights, ("ring", list(some)))

    def test_lists_of_any_numbers(self):
        for some in product((0, 4, 7, 8, -1), repeat=3):
            self.assert_judged(ROUND, ROUND_WEIGHTS, ("ring", list(some)))
        for some in product((1, 3, 5, 0), repeat=3):
            self.assert_judged(EVEN, EVEN_WEIGHTS, ("order", list(some)))

    def test_twenty_hands_and_ten_names(self):
        round_about = [(LINE[place - 1], LINE[place]) for place in range(10)]
        folk = folk_that_beats(TEN, round_about)
        self.assertIsNone(self.assert_judged(folk, [1] * 20, ("ring", LINE)))
        self.assertEqual(self.assert_judged(folk, [1] * 20, ("ring", LINE[:9])), ("beats", 8))
        self.assertEqual(self.assert_judged(folk, [1] * 20, ("order", LINE)), ("ahead", LINE[0], LINE[9]))
        self.assertIsNone(self.assert_judged([LINE] * 20, [LONGEST] * 20, ("order", LINE)))

    def test_never_both(self):
        chance = random.Random(64)
        for _ in range(60):
            folk = any_folk(chance, 5, 5)
            weights = some_weights(chance, len(folk))
            let_by = {word for word in ("order", "ring") for many in range(len(folk[0]) + 1)
                      for some in permutations(folk[0], many) if order_judged(folk, weights, (word, list(some))) is None}
            self.assertEqual(len(let_by), 1)


class OrderOf(unittest.TestCase):

    def assert_let_by(self, folk, weights):
        """The paper that is told is let by; its word is told on."""
        paper = order_of(folk, weights)
        self.assertIsNone(order_judged_by_words(folk, weights, paper), (folk, weights, paper))
        self.assertIsNone(order_judged(folk, weights, paper), (folk, weights, paper))
        self.assertEqual([number for number in numbers_in(paper) if type(number) is not int], [])
        return paper[0]

    def test_ordinary(self):
        self.assertEqual(order_of(EVEN, EVEN_WEIGHTS), ORDER_PAPER)
        word, names = order_of(ROUND, ROUND_WEIGHTS)
        self.assertEqual(word, "ring")
        self.assertIn(names, ([7, 4, 0], [4, 0, 7], [0, 7, 4]))
        self.assertEqual(order_of(ROUND, [2, 3, 9]), ("order", [4, 0, 7, 9]))

    def test_one_hand_alone(self):
        for ranking in ([6], [6, 2], [2, 6], [4, 0, 7, 2], LINE):
            self.assertEqual(order_of([ranking], [3]), ("order", ranking))
            self.assertEqual(order_of([ranking] * 20, [LONGEST] * 20), ("order", ranking))

    def test_names_neither_of_which_beats_the_other(self):
        for ranking in ([6, 2], [4, 0, 7, 2], LINE):
            self.assertEqual(self.assert_let_by([ranking, ranking[::-1]], [5, 5]), "order")
            self.assertEqual(order_of([ranking, ranking[::-1]], [5, 6]), ("order", ranking[::-1]))
        self.assertEqual(self.assert_let_by(orders([1, 5, 0]), [1] * 6), "order")
        self.assertEqual(self.assert_let_by(folk_that_beats(TEN, [(9, 0), (4, 9), (7, 8)]), [1] * 6), "order")

    def test_an_order_just_where_there_is_one(self):
        chance = random.Random(65)
        words = {"order": 0, "ring": 0}
        for _ in range(300):
            folk = any_folk(chance, 6, 5)
            weights = some_weights(chance, len(folk))
            word = self.assert_let_by(folk, weights)
            self.assertEqual(word == "order", bool(orders_by_words(folk, weights)))
            words[word] += 1
        self.assertGreater(min(words.values()), 9)

    def test_all_that_four_names_may_beat(self):
        # Of each two names the one beats the other, or neither does: all ways of two names to stand to one another.
        pairs = [(0, 1), (0, 2), (0, 3), (1, 2), (1, 3), (2, 3)]
        for sides in product((-1, 0, 1), repeat=6):
            wanted = [pair[::side] for pair, side in zip(pairs, sides) if side]
            folk = folk_that_beats([0, 1, 2, 3], wanted) or [[0, 1, 2, 3], [3, 2, 1, 0]]
            word = self.assert_let_by(folk, [1] * len(folk))
            fit = any(all(order.index(one) < order.index(other) for one, other in wanted) for order in orders(range(4)))
            self.assertEqual(word == "order", fit, wanted)

    def test_one_ring_alone_of_each_length(self):
        chance = random.Random(66)
        for many in range(3, 11):
            for _ in range(3):
                names = chance.sample(TEN, 10)
                ring = names[:many]
                pairs = [(ring[place - 1], ring[place]) for place in range(many)]
                rest = chance.sample([(one, other) for one in ring for other in names[many:]], min(10 - many, 4))
                folk = folk_that_beats(TEN, pairs + (rest if many < 10 else []))
                self.assertEqual(self.assert_let_by(folk, [1] * len(folk)), "ring")
                self.assertEqual(sorted(order_of(folk, [1] * len(folk))[1]), sorted(ring))

    def test_a_ring_behind_or_ahead_of_all_others(self):
        for behind in range(8):
            folk = [TEN[:behind] + [TEN[behind + turn % 3] for turn in range(shift, shift + 3)] + TEN[behind + 3:]
                    for shift in range(3)]
            self.assertEqual(self.assert_let_by(folk, [4, 5, 6]), "ring")
            self.assertEqual(self.assert_let_by(folk, [4, 5, 10]), "order")

    def test_all_weights_that_come_to_an_odd_number_let_by_one_order_at_most(self):
        chance = random.Random(67)
        for _ in range(60):
            folk = any_folk(chance, 5, 5)
            weights = some_weights(chance, len(folk))
            weights[0] += 1 - sum(weights) % 2
            self.assertLessEqual(len(orders_by_words(folk, weights)), 1)

    def test_any_twenty_hands_and_ten_names(self):
        chance = random.Random(68)
        for many in (2, 3, 5, 20):
            for _ in range(15):
                folk = [chance.sample(TEN, 10) for _ in range(many)]
                self.assert_let_by(folk, some_weights(chance, many))

    def test_who_is_put_ahead_never_goes_round_where_all_fall_on_a_line(self):
        chance = random.Random(69)
        for _ in range(60):
            line = chance.sample(range(40), chance.randint(1, 10))
            folk = some_on_line(chance, line, chance.randint(1, 20))
            self.assertEqual(self.assert_let_by(folk, some_weights(chance, len(folk))), "order")

    def test_is_told_soon(self):
        chance = random.Random(70)
        start = time.monotonic()
        for _ in range(20):
            folk = [chance.sample(TEN, 10) for _ in range(20)]
            weights = some_weights(chance, 20)
            order_judged(folk, weights, order_of(folk, weights))
            unbeaten(folk, weights)
        self.assertLess(time.monotonic() - start, 20)


class Unbeaten(unittest.TestCase):

    def test_ordinary(self):
        self.assertEqual(unbeaten(ROUND, ROUND_WEIGHTS), [])
        self.assertEqual(unbeaten(EVEN, EVEN_WEIGHTS), [3])
        self.assertEqual(unbeaten([[1, 0], [0, 1]], [1, 1]), [0, 1])
        self.assertEqual(unbeaten([[1, 0], [0, 1]], [1, 2]), [0])
        self.assertEqual(unbeaten([[6]], [4]), [6])
        self.assertEqual(unbeaten([LINE, LINE[::-1]], [7, 7]), TEN)
        self.assertEqual(unbeaten([LINE], [LONGEST]), [5])
        self.assertEqual(unbeaten(folk_that_beats([9, 4, 0, 2], [(0, 9)]), [1, 1]), [0, 2, 4])

    def test_by_the_words(self):
        chance = random.Random(71)
        many = set()
        for _ in range(200):
            folk = any_folk(chance, 6, 6)
            weights = some_weights(chance, len(folk))
            told = unbeaten(folk, weights)
            self.assertEqual(told, unbeaten_by_words(folk, weights))
            self.assertIs(type(told), list)
            many.add(len(told))
        self.assertLessEqual({0, 1, 2, 3}, many)

    def test_twenty_hands_and_ten_names(self):
        chance = random.Random(72)
        for _ in range(20):
            folk = [chance.sample(TEN, 10) for _ in range(20)]
            weights = some_weights(chance, 20)
            self.assertEqual(unbeaten(folk, weights), unbeaten_by_words(folk, weights))


class Middle(unittest.TestCase):

    def assert_middle(self, folk, weights, line):
        told = middle(folk, weights, line)
        self.assertIs(type(told), tuple)
        self.assertEqual(told, middle_by_words(folk, weights, line), (folk, weights, line))
        self.assertEqual(middle(folk, weights, line[::-1]), told[::-1])
        low, high = line.index(told[0]), line.index(told[1])
        self.assertLessEqual(low, high)
        self.assertEqual(sorted(line[low:high + 1]), unbeaten_by_words(folk, weights))
        self.assertEqual(unbeaten(folk, weights), sorted(line[low:high + 1]))
        if sum(weights) % 2:
            self.assertEqual(low, high)
        return told

    def test_ordinary(self):
        line = [3, 1, 0, 4]
        folk = [[3, 1, 0, 4], [1, 0, 4, 3], [4, 0, 1, 3]]
        for weights, expected in (
                ([1, 1, 1], (1, 1)), ([3, 1, 1], (3, 3)), ([2, 1, 1], (3, 1)), ([1, 1, 2], (1, 4)),
                ([1, 1, 3], (4, 4)), ([LONGEST, 1, LONGEST - 1], (3, 1)), ([1, LONGEST, 1], (1, 1)),
                ([2, 3, 4], (1, 1)), ([2, 3, 5], (1, 4)), ([2, 3, 6], (4, 4))):
            self.assertEqual(self.assert_middle(folk, weights, line), expected)
        self.assertEqual(self.assert_middle([folk[0], folk[2]], [1, 1], line), (3, 4))

    def test_one_hand_alone_and_one_name_alone(self):
        for ranking, line in (([6], [6]), ([6, 2], [2, 6]), ([0, 3, 1], [3, 0, 1]), (LINE, LINE)):
            for weight in (1, 2, LONGEST):
                self.assertEqual(self.assert_middle([ranking], [weight], line), (ranking[0], ranking[0]))
        self.assertEqual(self.assert_middle([[6]] * 20, [3] * 20, [6]), (6, 6))
        self.assertEqual(self.assert_middle([[6, 2], [2, 6]], [3, 3], [2, 6]), (2, 6))

    def test_by_the_words(self):
        chance = random.Random(73)
        wide = {True: 0, False: 0}
        for _ in range(250):
            line = chance.sample(range(40), chance.randint(1, 8))
            folk = some_on_line(chance, line, chance.randint(1, 7))
            told = self.assert_middle(folk, some_weights(chance, len(folk)), line)
            wide[told[0] == told[1]] += 1
        self.assertGreater(min(wide.values()), 20)

    def test_weights_that_come_to_an_odd_number_let_by_just_one_order(self):
        chance = random.Random(74)
        for _ in range(40):
            line = chance.sample(range(40), chance.randint(1, 6))
            folk = some_on_line(chance, line, chance.randint(1, 6))
            weights = some_weights(chance, len(folk))
            weights[-1] += 1 - sum(weights) % 2
            low, high = self.assert_middle(folk, weights, line)
            self.assertEqual(low, high)
            self.assertEqual([("order", order) for order in orders_by_words(folk, weights)], [order_of(folk, weights)])

    def test_a_middle_top_is_behind_nobody(self):
        chance = random.Random(75)
        for _ in range(40):
            line = chance.sample(range(40), chance.randint(2, 10))
            folk = some_on_line(chance, line, chance.randint(1, 20))
            weights = some_weights(chance, len(folk))
            for name in middle(folk, weights, line):
                self.assertTrue(all(margin(folk, weights, name, other) >= 0 for other in line if other != name))

    def test_twenty_hands_and_ten_names(self):
        chance = random.Random(76)
        for weights in ([1] * 20, [LONGEST] * 20, [1] * 19 + [20], some_weights(chance, 20)):
            for _ in range(5):
                self.assert_middle(some_on_line(chance, LINE, 20), weights, LINE)
        self.assertEqual(self.assert_middle([LINE, LINE[::-1]] * 10, [1] * 20, LINE), (5, 4))

    def test_no_line(self):
        for thing in NO_RANKINGS:
            with self.subTest(thing=thing), refused(self, "NoLine"):
                middle([[0, 1], [1, 0]], [1, 2], thing)

    def test_a_line_of_other_names(self):
        for line in ([0], [1], [0, 2], [2, 3], [0, 1, 2], TEN, [0, LONGEST]):
            with refused(self, "NoFit"):
                middle([[0, 1], [1, 0]], [1, 2], line)
        # Of these the second hand's ranking wouldn't fall either.
        with refused(self, "NoFit"):
            middle([[0, 1, 2], [2, 0, 1]], [1, 2], [0, 1, 3])

    def test_the_first_hand_whose_ranking_does_not_fall(self):
        fallen, others = [[0, 1, 2], [1, 2, 0], [2, 1, 0]], [[0, 2, 1], [2, 0, 1]]
        for many in range(1, 4):
            for chosen in product(fallen + others, repeat=many):
                folk = [list(ranking) for ranking in chosen]
                wrong = [hand for hand in range(many) if folk[hand] in others]
                if wrong:
                    with refused(self, "NoFall") as held:
                        middle(folk, [1] * many, [0, 1, 2])
                    self.assertEqual(held.exception.hand, wrong[0])
                    self.assertIs(type(held.exception.hand), int)
        for hand in (0, 7, 19):
            with refused(self, "NoFall") as held:
                middle([LINE] * hand + [TEN] * (20 - hand), [1] * 20, LINE)
            self.assertEqual(held.exception.hand, hand)


class Refused(unittest.TestCase):

    ASKED = [
        (margin, (0, 1)), (margin, (0, 0)), (order_judged, (("order", [0, 1]),)), (order_judged, (None,)),
        (order_of, ()), (unbeaten, ()), (middle, ([0, 1],)), (middle, ([0, 2],)), (middle, ([],)),
    ]

    def test_what_is_no_folk_ahead_of_all_else(self):
        for thing in NO_FOLKS:
            for ask, rest in self.ASKED:
                with self.subTest(ask=ask, thing=thing), refused(self, "NoFolk"):
                    ask(thing, [1, 1], *rest)
                with refused(self, "NoFolk"):
                    ask(thing, thing, *[thing for _ in rest])
        for ask, rest in self.ASKED:
            for odd in ODD_THINGS:
                with refused(self, "NoFolk"):
                    ask([[0, 1], [0]], odd, *[odd for _ in rest])

    def test_what_are_no_weights_behind_that(self):
        for folk in ([[0, 1], [1, 0]], [[0, 1]], [[1, 0]] * 3, [[0, 1]] * 20):
            for ask, rest in self.ASKED:
                for thing in no_weights(len(folk)):
                    with self.subTest(ask=ask, thing=thing), refused(self, "NoWeights"):
                        ask(folk, thing, *rest)
        for ask, rest in self.ASKED:
            for odd in ODD_THINGS:
                with refused(self, "NoWeights"):
                    ask([[0, 1], [1, 0]], [1, 0], *[odd for _ in rest])

    def test_no_line_ahead_of_rankings_that_do_not_fall(self):
        for thing in NO_RANKINGS:
            with refused(self, "NoLine"):
                middle([[0, 2, 1], [1, 2, 0], [2, 0, 1]], [1, 1, 1], thing)


class Own(unittest.TestCase):

    def test_what_is_handed_in_stays_as_it_was(self):
        same = [2, 0, 1, 3]
        folks = [(folk, weights) for folk, weights, _ in RIGHT]
        folks += [([[6]], [1]), ([same], [2]), ([same, same], [1, 1]), ([same, same[::-1]], [3, 3]),
                  ([LINE] * 20, [LONGEST] * 20)]
        for folk, weights in folks:
            check_own(self, order_of, folk, weights)
            check_own(self, unbeaten, folk, weights)
            if len(folk[0]) > 1:
                check_own(self, margin, folk, weights, folk[0][0], folk[0][1])
        for folk, weights in folks[2:]:
            check_own(self, middle, folk, weights, folk[0])
        check_own(self, middle, [same, same], same[2:], same)

    def test_what_is_judged_stays_as_it_was(self):
        for folk, weights, (word, names) in RIGHT:
            for bent in (names, names[::-1], names[:-1], names + names[:1], tuple(names)):
                check_own(self, order_judged, folk, weights, (word, bent))
            check_own(self, order_judged, folk, weights, [word, names])

    def test_what_was_handed_in_may_be_changed_behind(self):
        for some, weights, paper in RIGHT:
            folk, weights = [list(ranking) for ranking in some], list(weights)
            told = [order_of(folk, weights), unbeaten(folk, weights)]
            pictures = [frozen(thing) for thing in told]
            for part in inner_lists([folk, weights]):
                part.clear()
            self.assertEqual([frozen(thing) for thing in told], pictures)

    def test_asked_again_of_what_was_changed_meanwhile(self):
        folk, weights = [[0, 1], [1, 0]], [2, 1]
        self.assertEqual((margin(folk, weights, 0, 1), unbeaten(folk, weights)), (1, [0]))
        weights[1] = 3
        self.assertEqual((margin(folk, weights, 0, 1), unbeaten(folk, weights)), (-1, [1]))
        folk[1].reverse()
        self.assertEqual((margin(folk, weights, 0, 1), unbeaten(folk, weights)), (5, [0]))
        self.assertEqual(order_of(folk, weights), ("order", [0, 1]))
        weights.append(1)
        with refused(self, "NoWeights"):
            margin(folk, weights, 0, 1)


if __name__ == "__main__":
    unittest.main()
