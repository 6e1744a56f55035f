"""Points 22 to 24, with points 2, 3 and 4 for them: ontheline.few."""

import random
import time
import unittest
from itertools import combinations, permutations, product

from by_words_more import cost_by_words, few_judged_by_words, gain_by_words
from ontheline.few import cost, few, few_judged
from samples import (
    LONGEST, NO_FOLKS, NO_RANKINGS, ODD_THINGS, bent_lists, check_own, frozen, inner_lists, no_weights, numbers_in,
    refused, some_on_line, some_weights)

TEN = list(range(10))
LONG_LINE = [5, 0, 9, 2, 7, 1, 8, 3, 6, 4]

LINE = [3, 1, 0, 4]
FOLK = [[3, 1, 0, 4], [0, 4, 1, 3], [4, 0, 1, 3], [1, 3, 0, 4]]
WEIGHTS = [1, 2, 3, 1]
# The gains, from the name at the one place to that at the other, by the test's own sums.
GAINS = {(0, 1): 6, (0, 2): 12, (0, 3): 13, (1, 2): 7, (1, 3): 8, (2, 3): 3}
# In the second list: 16 - 6; the less of 16 - 12 and 11 - 7; the least of 16 - 13, 11 - 8 and 7 - 3.
TABLE = [[16, 11, 7, 8], [None, 10, 4, 3]]
RIGHT = (3, [1, 4], TABLE)


def set_in(j, i, number):
    """The right answer with another number of its table."""
    table = [list(row) for row in TABLE]
    table[j][i] = number
    return (3, [1, 4], table)


def bent_tables(table, far):
    """Things that are a table bent in one place: some of them have the form of a table still."""
    things = [thing for thing in ODD_THINGS] + [table[:-1], table + table[-1:], tuple(table), [table], table[::-1]]
    for j, row in enumerate(table):
        for other in (None, (), [], 7, "", tuple(row), row[:-1], row + row[-1:], row[1:], [row], row[::-1]):
            things.append(table[:j] + [other] + table[j + 1:])
        for i, number in enumerate(row):
            numbers = [None, True, False, 0, "", "3", (), [], [number], (number,)]
            if number is not None:
                numbers += [number - 1, number + 1, number - far, number + far, -number]
            for other in numbers:
                things.append(table[:j] + [row[:i] + [other] + row[i + 1:]] + table[j + 1:])
    return things


def bent_answers(answer, line):
    """Things that are what few tells bent in one place: some of them are right still."""
    price, names, table = answer
    things = ODD_THINGS + [answer[:-1], answer[1:], answer + (None,), answer + answer[-1:], list(answer), (answer,)]
    for other in (None, True, False, "", str(price), (price,), [price], price - 1, price + 1, -price, 10 ** 50):
        things.append((other, names, table))
    wrong_names = bent_lists(names, line) + [names[::-1], sorted(names)]
    wrong_names += [[name for name in line if name in some] for some in combinations(line, len(names))]
    things += [(price, other, table) for other in wrong_names]
    return things + [(price, names, other) for other in bent_tables(table, 10 ** 40)]


class Cost(unittest.TestCase):

    def test_ordinary(self):
        for names, expected in (
                ([3], 16), ([1], 11), ([0], 7), ([4], 8), ([1, 4], 3), ([4, 1], 3), ([3, 0], 4), ([0, 4], 4),
                ([4, 0, 1], 1), ([3, 0, 4], 1), ([3, 1, 0, 4], 0), ([4, 3], 3)):
            self.assertEqual(cost(FOLK, WEIGHTS, names), expected)
            self.assertEqual(cost_by_words(FOLK, WEIGHTS, names), expected)

    def test_by_the_words(self):
        chance = random.Random(91)
        for _ in range(60):
            names = chance.sample(range(30), chance.randint(1, 5))
            folk = [chance.sample(names, len(names)) for _ in range(chance.randint(1, 6))]
            weights = some_weights(chance, len(folk))
            for many in range(1, len(names) + 1):
                for some in permutations(names, many):
                    told = cost(folk, weights, list(some))
                    self.assertIs(type(told), int)
                    self.assertEqual(told, cost_by_words(folk, weights, some))

    def test_one_hand_alone_and_one_name_alone(self):
        for place, name in enumerate(LONG_LINE):
            self.assertEqual(cost([LONG_LINE], [LONGEST], [name]), place * LONGEST)
            self.assertEqual(cost([LONG_LINE], [2], LONG_LINE[place:]), 2 * place)
            self.assertEqual(cost([LONG_LINE], [2], LONG_LINE[place:][::-1]), 2 * place)
        self.assertEqual(cost([[6]], [4], [6]), 0)
        self.assertEqual(cost([[6]] * 20, [LONGEST] * 20, [6]), 0)

    def test_twenty_hands_and_ten_names(self):
        chance = random.Random(92)
        for _ in range(20):
            folk = [chance.sample(TEN, 10) for _ in range(20)]
            weights = some_weights(chance, 20)
            for many in range(1, 11):
                names = chance.sample(TEN, many)
                self.assertEqual(cost(folk, weights, names), cost_by_words(folk, weights, names))

    def test_no_names(self):
        things = ODD_THINGS + [[], [4, 4], [0, 1, 0], [2], [0, 2], [5], [-1], [0, -1], [True], [0, True], [3, False],
                               [None], [0, None], ["0"], [[0]], [(0,)], (0,), (0, 1), [LONGEST], [3, 1, 0, 4, 4], LINE * 2]
        things += [[name, wrong] for name in LINE for wrong in (None, True, False, "", "1", (), (1,), [1], name, 2, -1)]
        for thing in things:
            with self.subTest(thing=thing), refused(self, "NoNames"):
                cost(FOLK, WEIGHTS, thing)


class Few(unittest.TestCase):

    def assert_few(self, folk, weights, line, many):
        """What is told is let by; its price is told on."""
        told = few(folk, weights, line, many)
        self.assertIsNone(few_judged_by_words(folk, weights, line, many, told), (folk, weights, line, many, told))
        self.assertIsNone(few_judged(folk, weights, line, many, told))
        kinds = {type(number) for number in numbers_in(told)}
        self.assertLessEqual(kinds, {int, type(None)})
        return told[0]

    def assert_least(self, folk, weights, line):
        """For each number the price is the least of all choices of so many names, and of fewer ones."""
        for many in range(1, len(line) + 1):
            prices = [cost_by_words(folk, weights, some) for some in combinations(line, many)]
            self.assertEqual(self.assert_few(folk, weights, line, many), min(prices))
            fewer = [cost_by_words(folk, weights, some) for less in range(1, many) for some in combinations(line, less)]
            self.assertLessEqual(min(prices), min(fewer, default=min(prices)))

    def test_the_sums_of_this_file(self):
        for (one, later), gain in GAINS.items():
            self.assertEqual(gain_by_words(FOLK, WEIGHTS, LINE[one], LINE[later]), gain)

    def test_ordinary(self):
        price, names, _ = few(FOLK, WEIGHTS, LINE, 2)
        self.assertEqual(price, 3)
        self.assertIn(names, ([1, 4], [3, 4]))
        self.assertEqual(few(FOLK, WEIGHTS, LINE, 1)[:2], (7, [0]))
        self.assertEqual(few(FOLK, WEIGHTS, LINE, 4)[:2], (0, LINE))
        self.assertEqual(few(FOLK, WEIGHTS, LINE[::-1], 4)[:2], (0, LINE[::-1]))
        self.assert_least(FOLK, WEIGHTS, LINE)
        self.assert_least(FOLK, WEIGHTS, LINE[::-1])

    def test_against_all_choices(self):
        chance = random.Random(93)
        for _ in range(80):
            line = chance.sample(range(40), chance.randint(1, 7))
            folk = some_on_line(chance, line, chance.randint(1, 7))
            self.assert_least(folk, some_weights(chance, len(folk)), line)

    def test_more_names_than_tops(self):
        # Some of the names that are told bring nothing.
        for folk in ([[1, 3, 0, 4]], [[4, 0, 1, 3]], [[3, 1, 0, 4], [4, 0, 1, 3]], [[1, 0, 3, 4]] * 5):
            self.assert_least(folk, [1] * len(folk), LINE)
            for many in range(len({ranking[0] for ranking in folk}), 5):
                self.assertEqual(few(folk, [1] * len(folk), LINE, many)[0], 0)

    def test_one_hand_alone_and_one_name_alone(self):
        self.assert_least([[6]], [3], [6])
        self.assert_least([[6]] * 20, [LONGEST] * 20, [6])
        self.assertEqual(few([[6]], [3], [6], 1)[:2], (0, [6]))
        self.assert_least([[6, 2], [2, 6]], [3, 4], [2, 6])
        self.assert_least([LONG_LINE[:6]], [LONGEST], LONG_LINE[:6])

    def test_twenty_hands_and_ten_names_are_answered_soon(self):
        chance = random.Random(94)
        start = time.monotonic()
        for weights in ([1] * 20, [LONGEST] * 20, list(range(1, 21)), some_weights(chance, 20)):
            folk = some_on_line(chance, LONG_LINE, 20)
            for many in range(1, 11):
                told = few(folk, weights, LONG_LINE, many)
                self.assertIsNone(few_judged(folk, weights, LONG_LINE, many, told))
        self.assertLess(time.monotonic() - start, 20)
        self.assert_least(some_on_line(chance, LONG_LINE, 20), some_weights(chance, 20), LONG_LINE)

    def test_hands_of_much_weight(self):
        for heavy in range(4):
            weights = [LONGEST if hand == heavy else 1 for hand in range(4)]
            self.assert_least(FOLK, weights, LINE)
            self.assertIn(FOLK[heavy][0], few(FOLK, weights, LINE, 2)[1])


class FewJudged(unittest.TestCase):

    def assert_judged(self, thing, folk=FOLK, weights=WEIGHTS, line=LINE, many=2):
        """What is told of a thing is what the words tell; it is told on."""
        told = few_judged(folk, weights, line, many, thing)
        self.assertEqual(frozen(told), frozen(few_judged_by_words(folk, weights, line, many, thing)), thing)
        if told is not None:
            self.assertIs(type(told), tuple)
            self.assertIs(type(told[0]), str)
            self.assertEqual([number for number in numbers_in(told) if type(number) is not int], [])
        self.assertEqual(few_judged(folk, weights, line, many, thing), told)
        return told

    def test_right_answers(self):
        self.assertIsNone(self.assert_judged(RIGHT))
        self.assertIsNone(self.assert_judged((3, [3, 4], TABLE)))
        self.assertIsNone(self.assert_judged((7, [0], [[7, 7, 7, 7]]), many=1))
        self.assertIsNone(self.assert_judged((7, [0], [[16, 11, 7, 8]]), many=1))

    def test_lesser_numbers_are_right_where_they_bar_as_much(self):
        self.assertIsNone(self.assert_judged((3, [1, 4], [[16, 11, 7, 10 - 10 ** 40], [None, 3, 3, 3]])))
        self.assertIsNone(self.assert_judged((3, [1, 4], [[16, 11, 7, -1], [None, 4, 4, 3]])))

    def test_no_three_things_with_a_number_first(self):
        price, names, table = RIGHT
        for thing in ODD_THINGS + [RIGHT[:2], RIGHT[1:], RIGHT + (None,), list(RIGHT), [RIGHT], (RIGHT,), (RIGHT, 1, 2)]:
            with self.subTest(thing=thing):
                if not (type(thing) is tuple and len(thing) == 3):
                    self.assertEqual(self.assert_judged(thing), ("few",))
        for other in (None, True, False, "", "3", (3,), [3], ()):
            self.assertEqual(self.assert_judged((other, names, table)), ("few",))
            self.assertEqual(self.assert_judged((other, other, other)), ("few",))
        # A truth is no price, though it is like the number 1 or 0.
        told = few(FOLK, WEIGHTS, LINE, 3)
        self.assertEqual((told[0], self.assert_judged(told, many=3)), (1, None))
        self.assertEqual(self.assert_judged((True, *told[1:]), many=3), ("few",))
        told = few(FOLK, WEIGHTS, LINE, 4)
        self.assertEqual((told[0], self.assert_judged(told, many=4)), (0, None))
        self.assertEqual(self.assert_judged((False, *told[1:]), many=4), ("few",))

    def test_no_names_along_the_line(self):
        price, names, table = RIGHT
        for thing in bent_lists(names, LINE) + [[4, 1], [1, 3], [0, 1], [4, 3], [1, 1], [1], [1, 0, 4], LINE]:
            with self.subTest(thing=thing):
                self.assertEqual(self.assert_judged((price, thing, table)), ("names",))
        for many in (1, 3, 4):
            self.assertEqual(self.assert_judged(RIGHT, many=many), ("names",))

    def test_another_price(self):
        _, names, table = RIGHT
        for other in (2, 4, 0, -3, 10 ** 50, -10 ** 50):
            self.assertEqual(self.assert_judged((other, names, table)), ("price",))
        for some in combinations(LINE, 2):
            expected = None if cost_by_words(FOLK, WEIGHTS, some) == 3 else ("price",)
            self.assertEqual(self.assert_judged((3, list(some), table)), expected)

    def test_no_table(self):
        for thing in ODD_THINGS + [TABLE[:1], TABLE + [[None, None, 0, 0]], TABLE[1:], tuple(TABLE), [TABLE], TABLE[::-1]]:
            with self.subTest(thing=thing):
                self.assertEqual(self.assert_judged((3, [1, 4], thing)), ("table",))
        for j in range(2):
            for row in (None, (), [], 7, tuple(TABLE[j]), TABLE[j][:-1], TABLE[j] + [3], TABLE[j][1:], [TABLE[j]]):
                self.assertEqual(self.assert_judged((3, [1, 4], TABLE[:j] + [row] + TABLE[j + 1:])), ("table",))
            for i in range(4):
                for number in (None, True, False, "", "3", (), [], [3], (3,)):
                    if (j, i) != (1, 0) or number is not None:
                        self.assertEqual(self.assert_judged(set_in(j, i, number)), ("table",))
        for number in (0, 16, -1, 10 ** 50):
            self.assertEqual(self.assert_judged(set_in(1, 0, number)), ("table",))

    def test_the_first_number_that_is_not_right(self):
        for j, i in product(range(2), range(4)):
            if (j, i) != (1, 0):
                self.assertEqual(self.assert_judged(set_in(j, i, TABLE[j][i] + 1)), ("number", j, i))
                self.assertEqual(self.assert_judged(set_in(j, i, 10 ** 50)), ("number", j, i))
        for i, later in combinations(range(4), 2):
            table = [[number + (place in (i, later)) for place, number in enumerate(row)] for row in TABLE[:1]]
            self.assertEqual(self.assert_judged((3, [1, 4], table + TABLE[1:])), ("number", 0, i))
        # Less in the first list, than which there is too much in the second.
        self.assertEqual(self.assert_judged(set_in(0, 0, 15)), ("number", 1, 1))
        self.assertEqual(self.assert_judged(set_in(0, 1, 10)), ("number", 1, 2))
        self.assertEqual(self.assert_judged(set_in(0, 2, 5)), ("number", 1, 3))
        self.assertIsNone(self.assert_judged(set_in(0, 2, 6)))
        self.assertIsNone(self.assert_judged(set_in(0, 3, -10 ** 40)))

    def test_the_least_place_below_the_price(self):
        self.assertEqual(self.assert_judged(set_in(1, 1, 2)), ("least", 1))
        self.assertEqual(self.assert_judged(set_in(1, 2, 2)), ("least", 2))
        self.assertEqual(self.assert_judged(set_in(1, 3, 2)), ("least", 3))
        self.assertEqual(self.assert_judged(set_in(1, 3, -10 ** 40)), ("least", 3))
        self.assertEqual(self.assert_judged((3, [1, 4], [TABLE[0], [None, 3, 2, 2]])), ("least", 2))
        self.assertEqual(self.assert_judged((3, [1, 4], [TABLE[0], [None, 2, 5, 2]])), ("number", 1, 2))
        self.assertEqual(self.assert_judged((4, [3, 0], TABLE)), ("least", 3))
        self.assertEqual(self.assert_judged((4, [3, 0], [TABLE[0], [None, 3, 4, 3]])), ("least", 1))

    def test_bent_in_one_place(self):
        chance = random.Random(95)
        for many in range(1, 5):
            for thing in bent_answers(few(FOLK, WEIGHTS, LINE, many), LINE):
                self.assert_judged(thing, many=many)
        for _ in range(10):
            line = chance.sample(range(12), chance.randint(1, 5))
            folk = some_on_line(chance, line, chance.randint(1, 5))
            weights = some_weights(chance, len(folk))
            many = chance.randint(1, len(line))
            for thing in bent_answers(few(folk, weights, line, many), line):
                self.assert_judged(thing, folk, weights, line, many)

    def test_bent_in_two_places(self):
        chance = random.Random(96)
        told = set()
        for _ in range(1500):
            line = chance.sample(range(12), chance.randint(1, 5))
            folk = some_on_line(chance, line, chance.randint(1, 4))
            weights = some_weights(chance, len(folk))
            many = chance.randint(1, len(line))
            price, names, table = few(folk, weights, line, many)
            table = [list(row) for row in table]
            for _ in range(2):
                j, i = chance.randrange(many), chance.randrange(len(line))
                if table[j][i] is not None and chance.random() < 0.9:
                    table[j][i] += chance.choice([-10 ** 40, -3, -2, -1, 1, 2])
                else:
                    table[j][i] = chance.choice([None, 0, True])
            answer = (price + chance.choice([0] * 9 + [1]), names[::chance.choice([1] * 9 + [-1])], table)
            word = self.assert_judged(answer, folk, weights, line, many)
            told.add(word and word[0])
        self.assertEqual(told, {None, "names", "price", "table", "number", "least"})

    def test_where_none_is_told_no_others_cost_less(self):
        chance = random.Random(97)
        let_by = 0
        for _ in range(300):
            names = chance.sample(range(9), chance.randint(2, 4))
            folk = some_on_line(chance, names, chance.randint(1, 4))
            weights = some_weights(chance, len(folk))
            many = chance.randint(1, len(names))
            price, _, table = few(folk, weights, names, many)
            for some in combinations(names, many):
                right = cost_by_words(folk, weights, some)
                told = self.assert_judged((right, list(some), table), folk, weights, names, many)
                self.assertEqual(told is None, right == price)
                let_by += told is None
        self.assertGreater(let_by, 299)


class Refused(unittest.TestCase):

    ODD = [None, True, "", 0, (), [], [0], ("few",)]

    def asked(self, *rest):
        """Each of the functions that few names are asked of, with what is handed in ahead of the thing."""
        return [(few, rest)] + [(few_judged, (*rest, thing)) for thing in (RIGHT, None, (), True)]

    def assert_refused(self, kind, *rest):
        for ask, handed in self.asked(*rest):
            with self.subTest(ask=ask, rest=rest), refused(self, kind):
                ask(*handed)

    def test_no_folk_ahead_of_all_else(self):
        for thing in NO_FOLKS:
            for weights, line, many in (([1, 1], [0, 1], 1), ([0], [0, 0], 0), (None, None, None), (thing,) * 3):
                self.assert_refused("NoFolk", thing, weights, line, many)
                with refused(self, "NoFolk"):
                    cost(thing, weights, line)

    def test_no_weights_behind_that(self):
        for thing in no_weights(4):
            for line, many in ((LINE, 2), ([0, 0], 0), (None, None), (TEN, 20), (LINE[::-1], True), (thing, thing)):
                self.assert_refused("NoWeights", FOLK, thing, line, many)
                with refused(self, "NoWeights"):
                    cost(FOLK, thing, line)

    def test_no_line_behind_that(self):
        for thing in NO_RANKINGS:
            for many in (2, 0, 5, None, thing):
                self.assert_refused("NoLine", FOLK, WEIGHTS, thing, many)

    def test_other_names_behind_that(self):
        for line in ([3, 1, 0], [3, 1, 0, 5], [3, 1, 0, 4, 5], TEN, [7], [1, 3, 0, 5]):
            for many in (2, 0, 5, None, ()):
                self.assert_refused("NoFit", FOLK, WEIGHTS, line, many)

    def test_rankings_that_do_not_fall_behind_that(self):
        for line, hand in (([1, 3, 0, 4], 1), ([3, 0, 1, 4], 0), ([0, 3, 1, 4], 1), ([1, 0, 3, 4], 0)):
            for many in (2, 0, 5, None, ()):
                for ask, handed in self.asked(FOLK, WEIGHTS, line, many):
                    with refused(self, "NoFall") as held:
                        ask(*handed)
                    self.assertEqual((held.exception.hand, type(held.exception.hand)), (hand, int))
        for ask, handed in self.asked([LONG_LINE] * 19 + [TEN], [1] * 20, LONG_LINE, 0):
            with refused(self, "NoFall") as held:
                ask(*handed)
            self.assertEqual(held.exception.hand, 19)

    def test_numbers_behind_that(self):
        for many in (0, 5, -1, 6, 10, LONGEST, -LONGEST):
            self.assert_refused("NoNumber", FOLK, WEIGHTS, LINE, many)
        for many in (0, 2):
            self.assert_refused("NoNumber", [[6]], [1], [6], many)
        for many in (0, 11):
            self.assert_refused("NoNumber", [LONG_LINE], [1], LONG_LINE, many)


class Own(unittest.TestCase):

    def test_what_is_handed_in_stays_as_it_was(self):
        same = [2, 0]
        for folk, weights, line in (
                (FOLK, WEIGHTS, LINE), ([[6]], [1], [6]), ([same], [3], same), ([same, same, same[::-1]], [1, 2, 3], same),
                ([LONG_LINE] * 20, [LONGEST] * 20, LONG_LINE)):
            for many in range(1, len(line) + 1):
                check_own(self, few, folk, weights, line, many)
                check_own(self, cost, folk, weights, line[:many])
        check_own(self, cost, [[2, 1], [1, 2]], [1, 2], [1, 2])
        same = [2, 1]
        check_own(self, cost, [same, same], same, same)
        check_own(self, few, [same, same], same, same, 2)

    def test_what_is_judged_stays_as_it_was(self):
        check_own(self, few_judged, FOLK, WEIGHTS, LINE, 2, RIGHT)
        for thing in bent_answers(RIGHT, LINE):
            before = frozen(thing)
            few_judged(FOLK, WEIGHTS, LINE, 2, thing)
            self.assertEqual(frozen(thing), before)
        check_own(self, few_judged, FOLK, WEIGHTS, LINE, 2, set_in(0, 1, 12))
        check_own(self, few_judged, FOLK, WEIGHTS, LINE, 2, set_in(1, 1, 1))

    def test_what_was_handed_in_may_be_changed_behind(self):
        folk, weights, line = [list(ranking) for ranking in FOLK], list(WEIGHTS), list(LINE)
        told = [few(folk, weights, line, many) for many in range(1, 5)]
        pictures = [frozen(thing) for thing in told]
        for part in inner_lists([folk, weights, line]):
            part.clear()
        self.assertEqual([frozen(thing) for thing in told], pictures)

    def test_asked_again_of_what_was_changed_meanwhile(self):
        folk, weights = [[3, 1], [1, 3]], [1, 2]
        self.assertEqual((cost(folk, weights, [3]), few(folk, weights, [3, 1], 1)[:2]), (2, (1, [1])))
        weights[0] = 3
        self.assertEqual((cost(folk, weights, [3]), few(folk, weights, [3, 1], 1)[:2]), (2, (2, [3])))
        folk[0].reverse()
        self.assertEqual((cost(folk, weights, [3]), few(folk, weights, [3, 1], 1)[:2]), (5, (0, [1])))


if __name__ == "__main__":
    unittest.main()
