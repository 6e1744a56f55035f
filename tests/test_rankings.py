"""Points 4 to 6, and point 2 for what they tell: ontheline.rankings."""

import time
import unittest
from itertools import combinations, product

from ontheline.rankings import ahead, between, cut_down, is_folk, is_ranking, steps, unlike
from samples import LONGEST, NO_FOLKS, NO_RANKINGS, check_own, orders, refused

TEN = list(range(10))
MIXED = [5, 0, 9, 2, 7, 1, 8, 3, 6, 4]
BIG = [LONGEST, 0, LONGEST - 1, 10 ** 29]


def unlike_by_words(one, other):
    return sum((one.index(a) < one.index(b)) != (other.index(a) < other.index(b))
               for a, b in combinations(sorted(one), 2))


def between_by_words(one, middle, other):
    for a, b in combinations(one, 2):
        if other.index(a) < other.index(b) and middle.index(a) > middle.index(b):
            return False
    return True


def neighbours_exchanged(ranking):
    told = []
    for at in range(len(ranking) - 1):
        told.append(ranking[:at] + [ranking[at + 1], ranking[at]] + ranking[at + 2:])
    return told


class IsRanking(unittest.TestCase):

    def test_rankings(self):
        for thing in ([0], [7], [LONGEST], [1, 0], [0, 1], [3, 9, 4], TEN, TEN[::-1], MIXED, BIG,
                      [LONGEST - k for k in range(10)]):
            with self.subTest(thing=thing):
                self.assertIs(is_ranking(thing), True)

    def test_what_is_none(self):
        for thing in NO_RANKINGS:
            with self.subTest(thing=thing):
                self.assertIs(is_ranking(thing), False)

    def test_how_many_names(self):
        for many in range(14):
            self.assertIs(is_ranking(list(range(many))), 1 <= many <= 10)

    def test_a_name_twice_at_any_two_places(self):
        for many in range(2, 11):
            for first, second in combinations(range(many), 2):
                thing = list(range(many))
                thing[second] = thing[first]
                self.assertIs(is_ranking(thing), False)

    def test_what_is_no_name_at_any_place(self):
        for wrong in (None, True, False, -1, -LONGEST, "", "3", (3,), [3], [], ()):
            for many in range(1, 11):
                for place in range(many):
                    thing = list(range(20, 20 + many))
                    thing[place] = wrong
                    self.assertIs(is_ranking(thing), False, thing)

    def test_long_names_that_are_alike(self):
        self.assertIs(is_ranking([LONGEST, LONGEST - 1]), True)
        self.assertIs(is_ranking([LONGEST, LONGEST - 1, LONGEST]), False)


class IsFolk(unittest.TestCase):

    def test_folks(self):
        for thing in ([[0]], [[3, 1]], [[0, 1]] * 20, [[0, 1], [1, 0]], [TEN, MIXED, TEN[::-1]], [MIXED] * 20,
                      [[0]] * 20, [BIG, BIG[::-1]], orders([4, 2, 6])):
            with self.subTest(thing=thing):
                self.assertIs(is_folk(thing), True)

    def test_what_is_none(self):
        for thing in NO_FOLKS:
            with self.subTest(thing=thing):
                self.assertIs(is_folk(thing), False)

    def test_no_ranking_is_a_folk_and_no_folk_a_ranking(self):
        for thing in ([0], [0, 1], TEN):
            self.assertIs(is_folk(thing), False)
            self.assertIs(is_ranking([thing]), False)
            self.assertIs(is_folk([thing]), True)

    def test_how_many_rankings(self):
        for many in range(24):
            self.assertIs(is_folk([[2, 0, 1] for _ in range(many)]), 1 <= many <= 20)

    def test_what_is_no_ranking_at_any_place(self):
        for wrong in NO_RANKINGS:
            for place in range(3):
                thing = [[0, 1], [1, 0], [0, 1]]
                thing[place] = wrong
                self.assertIs(is_folk(thing), False, thing)

    def test_other_names_at_any_place(self):
        for wrong in ([0, 1, 2, 4], [0, 1, 2], [0, 1, 2, 3, 4], [5, 6, 7, 8], [LONGEST, 0, 1, 2]):
            for place in range(4):
                thing = orders([0, 1, 2, 3])[:4]
                thing[place] = wrong
                self.assertIs(is_folk(thing), False, thing)

    def test_lists_that_stand_there_twice(self):
        ranking = [1, 0]
        self.assertIs(is_folk([ranking, ranking]), True)


class Ahead(unittest.TestCase):

    def test_each_two_names_either_way_about(self):
        for ranking in (MIXED, TEN, BIG, [3, 9], [9, 3]):
            for one, other in product(ranking, ranking):
                if one != other:
                    self.assertIs(ahead(ranking, one, other), ranking.index(one) < ranking.index(other))

    def test_ordinary(self):
        self.assertIs(ahead([4, 2, 7], 4, 2), True)
        self.assertIs(ahead([4, 2, 7], 2, 4), False)
        self.assertIs(ahead([4, 2, 7], 4, 7), True)
        self.assertIs(ahead([4, 2, 7], 7, 2), False)

    def test_refuses_other_names_and_one_twice(self):
        for one, other in ((4, 4), (7, 7), (4, 3), (3, 4), (3, 5), (3, 3), (0, 4), (4, -1), (-1, 4), (LONGEST, 2),
                           (2, LONGEST), (-LONGEST, -LONGEST)):
            with self.subTest(one=one, other=other), refused(self, "NoNames"):
                ahead([4, 2, 7], one, other)
        with refused(self, "NoNames"):
            ahead([4], 4, 4)

    def test_a_truth_is_no_name(self):
        for one, other in ((True, 0), (0, True), (False, 1), (1, False), (True, False)):
            with self.subTest(one=one, other=other), refused(self, "NoNames"):
                ahead([0, 1], one, other)

    def test_refuses_what_is_no_ranking_ahead_of_the_names(self):
        for thing in NO_RANKINGS:
            for one, other in ((0, 1), (0, 0), (None, [])):
                with self.subTest(thing=thing), refused(self, "NoRanking"):
                    ahead(thing, one, other)


class Unlike(unittest.TestCase):

    def test_by_the_words(self):
        for many in range(1, 5):
            for one, other in product(orders(range(many)), repeat=2):
                self.assertEqual(unlike(one, other), unlike_by_words(one, other))

    def test_a_ranking_and_itself(self):
        for ranking in ([8], [1, 0], MIXED, TEN, BIG):
            self.assertEqual(unlike(ranking, ranking), 0)
            self.assertEqual(unlike(ranking, list(ranking)), 0)

    def test_a_ranking_and_its_turning(self):
        for many in range(1, 11):
            self.assertEqual(unlike(MIXED[:many], MIXED[:many][::-1]), many * (many - 1) // 2)
        self.assertEqual(unlike(BIG, BIG[::-1]), 6)

    def test_neighbours_exchanged(self):
        for other in neighbours_exchanged(MIXED):
            self.assertEqual(unlike(MIXED, other), 1)
            self.assertEqual(unlike(other, MIXED), 1)

    def test_ordinary(self):
        self.assertEqual(unlike([0, 1, 2, 3], [3, 0, 1, 2]), 3)
        self.assertEqual(unlike([0, 1, 2, 3], [1, 0, 3, 2]), 2)
        self.assertEqual(unlike([9, 4, 7], [7, 9, 4]), 2)
        self.assertIs(type(unlike([0, 1], [0, 1])), int)

    def test_is_alike_from_both_sides(self):
        for one, other in product(orders([2, 5, 3, 8]), repeat=2):
            self.assertEqual(unlike(one, other), unlike(other, one))

    def test_refuses_other_names(self):
        for one, other in (([0, 1], [0, 2]), ([0, 1], [0]), ([0], [0, 1]), ([0], [1]), (TEN, TEN[:9]),
                           (TEN[:9], TEN), (TEN, TEN[:9] + [10]), ([LONGEST], [LONGEST - 1])):
            with self.subTest(one=one, other=other), refused(self, "NoFit"):
                unlike(one, other)

    def test_refuses_what_is_no_ranking_ahead_of_other_names(self):
        for thing in NO_RANKINGS:
            for good in ([0, 1], [5]):
                with self.subTest(thing=thing), refused(self, "NoRanking"):
                    unlike(thing, good)
                with self.subTest(thing=thing), refused(self, "NoRanking"):
                    unlike(good, thing)
            with refused(self, "NoRanking"):
                unlike(thing, thing)


class Between(unittest.TestCase):

    def test_by_the_words(self):
        for many in range(1, 5):
            some = orders(range(many))
            for one, middle, other in product(some, repeat=3):
                told = between(one, middle, other)
                self.assertIs(told, between_by_words(one, middle, other))
                sums = unlike(one, middle) + unlike(middle, other) == unlike(one, other)
                self.assertIs(told, sums)

    def test_both_ends(self):
        for other in (TEN, MIXED[::-1], MIXED):
            self.assertIs(between(MIXED, MIXED, other), True)
            self.assertIs(between(MIXED, other, other), True)

    def test_on_a_way_of_exchanges_and_beside_it(self):
        way = [[0, 1, 2, 3], [0, 2, 1, 3], [2, 0, 1, 3], [2, 0, 3, 1]]
        for middle in way:
            self.assertIs(between(way[0], middle, way[-1]), True)
        for middle in ([1, 0, 2, 3], [3, 0, 1, 2], [2, 1, 0, 3], [2, 3, 0, 1], [3, 2, 1, 0]):
            self.assertIs(between(way[0], middle, way[-1]), False)

    def test_all_lie_between_a_ranking_and_its_turning(self):
        for middle in orders([6, 1, 4, 3]):
            self.assertIs(between([6, 1, 4, 3], middle, [3, 4, 1, 6]), True)

    def test_between_one_and_itself_lies_that_one_alone(self):
        for middle in orders([6, 1, 4]):
            self.assertIs(between([6, 1, 4], middle, [6, 1, 4]), middle == [6, 1, 4])

    def test_refuses_other_names(self):
        for wrong in ([0, 2], [0], [0, 1, 2], [LONGEST, 0]):
            for place in range(3):
                handed = [[0, 1], [1, 0], [0, 1]]
                handed[place] = wrong
                with self.subTest(handed=handed), refused(self, "NoFit"):
                    between(*handed)

    def test_refuses_what_is_no_ranking_ahead_of_other_names(self):
        for thing in NO_RANKINGS:
            for place in range(3):
                for handed in ([[0, 1], [1, 0], [0, 1]], [[0, 1], [0, 2], [0, 3]], [[0], [0, 1], [1, 2, 3]]):
                    handed[place] = thing
                    with self.subTest(handed=handed), refused(self, "NoRanking"):
                        between(*handed)


class CutDown(unittest.TestCase):

    def test_ordinary(self):
        self.assertEqual(cut_down([4, 2, 7, 0], [7, 4]), [4, 7])
        self.assertEqual(cut_down([4, 2, 7, 0], [0, 2]), [2, 0])
        self.assertEqual(cut_down(BIG, [10 ** 29, LONGEST]), [LONGEST, 10 ** 29])

    def test_one_name_and_all(self):
        for name in MIXED:
            self.assertEqual(cut_down(MIXED, [name]), [name])
        for some in (MIXED, TEN, TEN[::-1]):
            self.assertEqual(cut_down(MIXED, some), MIXED)
        self.assertEqual(cut_down([3], [3]), [3])

    def test_names_in_any_order_and_told_again(self):
        for count in range(1, 5):
            for some in product([5, 1, 8, 3], repeat=count):
                expected = [name for name in [5, 1, 8, 3] if name in some]
                self.assertEqual(cut_down([5, 1, 8, 3], list(some)), expected)
        self.assertEqual(cut_down(MIXED, [4, 5] * 30), [5, 4])

    def test_refuses_none_and_other_names(self):
        for some in ([], [3], [4, 3], [3, 4], [4, 2, 7, 3], [-1], [4, -2], [LONGEST], [4, 4, 5], [3] * 12):
            with self.subTest(some=some), refused(self, "NoNames"):
                cut_down([4, 2, 7], some)

    def test_a_truth_is_no_name(self):
        for some in ([True], [0, True], [False, 1]):
            with self.subTest(some=some), refused(self, "NoNames"):
                cut_down([0, 1], some)

    def test_refuses_what_is_no_ranking_ahead_of_the_names(self):
        for thing in NO_RANKINGS:
            for some in ([0], [], [99], None, [None]):
                with self.subTest(thing=thing, some=some), refused(self, "NoRanking"):
                    cut_down(thing, some)


class Steps(unittest.TestCase):

    def check_way(self, one, other):
        way = steps(one, other)
        self.assertIs(type(way), list)
        self.assertEqual(way[0], one)
        self.assertEqual(way[-1], other)
        self.assertEqual(len(way), unlike_by_words(one, other) + 1)
        for earlier, later in zip(way, way[1:]):
            self.assertIn(later, neighbours_exchanged(earlier))

    def test_all_ways_of_few_names(self):
        for many in range(1, 5):
            for one, other in product(orders(range(many)), repeat=2):
                self.check_way(one, other)

    def test_a_ranking_and_itself(self):
        for ranking in ([4], [4, 0], MIXED):
            self.assertEqual(steps(ranking, list(ranking)), [ranking])

    def test_neighbours_exchanged(self):
        for other in neighbours_exchanged(MIXED):
            self.assertEqual(steps(MIXED, other), [MIXED, other])

    def test_ten_names_and_their_turning(self):
        for ranking in (MIXED, TEN):
            self.check_way(ranking, ranking[::-1])
            self.assertEqual(len(steps(ranking, ranking[::-1])), 46)

    def test_ten_names_and_others(self):
        self.check_way(MIXED, TEN)
        self.check_way(TEN, MIXED)
        self.check_way(MIXED, MIXED[5:] + MIXED[:5])
        self.check_way(MIXED, MIXED[1:] + MIXED[:1])
        self.check_way(MIXED, MIXED[-1:] + MIXED[:-1])
        self.check_way(BIG, sorted(BIG))

    def test_refuses_other_names(self):
        for one, other in (([0, 1], [0, 2]), ([0, 1], [0]), ([0], [0, 1]), (TEN, TEN[:9])):
            with self.subTest(one=one, other=other), refused(self, "NoFit"):
                steps(one, other)

    def test_refuses_what_is_no_ranking_ahead_of_other_names(self):
        for thing in NO_RANKINGS:
            with self.subTest(thing=thing), refused(self, "NoRanking"):
                steps(thing, [5, 6])
            with self.subTest(thing=thing), refused(self, "NoRanking"):
                steps([5, 6], thing)


class Own(unittest.TestCase):

    def test_what_is_told_is_the_asker_s_own(self):
        check_own(self, cut_down, [4, 2, 7], [7, 4])
        check_own(self, cut_down, [4, 2, 7], [4, 2, 7])
        check_own(self, cut_down, [4], [4])
        check_own(self, steps, [4, 2, 7], [7, 2, 4])
        check_own(self, steps, [4, 2, 7], [4, 2, 7])
        check_own(self, steps, MIXED, MIXED[::-1])
        same = [4, 2, 7]
        check_own(self, steps, same, same)
        check_own(self, cut_down, same, same)

    def test_what_is_handed_in_stays_as_it_was(self):
        check_own(self, is_ranking, [4, 2, 7])
        check_own(self, is_folk, [[4, 2, 7], [2, 7, 4]])
        check_own(self, ahead, [4, 2, 7], 2, 7)
        check_own(self, unlike, [4, 2, 7], [7, 2, 4])
        check_own(self, between, [4, 2, 7], [2, 4, 7], [7, 2, 4])

    def test_what_is_refused_stays_as_it_was(self):
        for ask, handed in ((cut_down, [[4, 2, 7], [7, 3]]), (steps, [[4, 2], [3, 2]]), (unlike, [[4, 2], [2, 2]])):
            before = repr(handed)
            with self.assertRaises(ValueError):
                ask(*handed)
            self.assertEqual(repr(handed), before)

    def test_what_was_handed_in_may_be_changed_behind(self):
        one, other = [4, 2, 7], [7, 2, 4]
        way = steps(one, other)
        part = cut_down(one, other)
        expected = [list(ranking) for ranking in way]
        one.append(0)
        other.clear()
        self.assertEqual(way, expected)
        self.assertEqual(part, [4, 2, 7])

    def test_is_told_soon(self):
        start = time.monotonic()
        for _ in range(50):
            steps(MIXED, MIXED[::-1])
            between(MIXED, TEN, MIXED[::-1])
            unlike(MIXED, TEN)
            is_folk([MIXED] * 20)
        self.assertLess(time.monotonic() - start, 10)


if __name__ == "__main__":
    unittest.main()
