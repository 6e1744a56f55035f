"""Points 27 to 31, with points 2, 3 and 4 for them: ontheline.trees."""

import random
import time
import unittest
from itertools import combinations, permutations, product

from by_words_trees import (
    all_trees, balance_by_words, first_apart_by_words, is_tree_by_words, options_by_words, parts_by_words, some_on_tree,
    some_tree, tree_judged_by_words, trees_by_words)
from ontheline.trees import (
    balance, first_apart, is_tree, options, tree_by, tree_judged, tree_number, tree_told, trees_many)
from samples import (
    LONGEST, NO_FOLKS, NO_RANKINGS, ODD_THINGS, bent_lists, bent_papers, check_own, frozen, inner_lists, numbers_in,
    orders, refused, some_on_line)

TEN = list(range(10))
LONG_LINE = [5, 0, 9, 2, 7, 1, 8, 3, 6, 4]

NAMES = [0, 1, 3, 4, 7]
# 3 hangs together with 0, 1 and 7, and 7 with 4.
TREE = [(0, 3), (1, 3), (3, 7), (4, 7)]
FOLK = [[3, 0, 1, 7, 4], [7, 3, 4, 0, 1], [4, 7, 3, 1, 0], [1, 3, 7, 0, 4]]
# 4 hangs nowhere: it is last for one hand, and the two others have 0 and 1 second.
BARRED = [[0, 1, 3, 4], [4, 0, 1, 3], [4, 1, 3, 0]]

NO_NAMES = NO_RANKINGS + [[1, 0], [0, 2, 1], [7, 3], TEN[::-1], [9] + TEN[:9], [LONGEST, 0], list(range(11))]


def bent_trees(tree, names):
    """Things that are no tree of the names, or are another one, by one change of a tree."""
    things = ODD_THINGS + [tuple(tree), [tree], tree[:-1], tree[1:], tree + tree[-1:], tree[:1] + tree, tree + [(0, 99)],
                           [list(tie) for tie in tree], [tie[::-1] for tie in tree], tree[::-1], tree + [None]]
    for place, (one, other) in enumerate(tree):
        wrong = [(other, one), [one, other], (one,), (one, other, other), (one, one), (other, other), ((one, other),),
                 (one, None), (None, other), (str(one), other), (-1, other), (one, max(names) + 1), (True, other),
                 (one, True), (False, other), (one, False), None, True, one, "", (), ([one], other), (one, (other,))]
        wrong += [tie for tie in combinations(sorted(names), 2) if tie != (one, other)]
        things += [tree[:place] + [tie] + tree[place + 1:] for tie in wrong]
        things += [sorted(tree[:place] + [tie] + tree[place + 1:]) for tie in combinations(sorted(names), 2)]
    for one, other in combinations(range(len(tree)), 2):
        things.append([tree[{one: other, other: one}.get(place, place)] for place in range(len(tree))])
    return things


class IsTree(unittest.TestCase):

    def assert_tree(self, names, thing):
        told = is_tree(names, thing)
        self.assertIs(told, is_tree_by_words(names, thing), (names, thing))
        self.assertIs(is_tree(names, thing), told)
        return told

    def test_ordinary(self):
        self.assertIs(self.assert_tree(NAMES, TREE), True)
        self.assertIs(self.assert_tree([6], []), True)
        self.assertIs(self.assert_tree([2, 6], [(2, 6)]), True)
        self.assertIs(self.assert_tree([0, 1, 2], [(0, 1), (1, 2)]), True)
        self.assertIs(self.assert_tree([0, LONGEST], [(0, LONGEST)]), True)
        for wrong in ([(1, 2), (0, 1)], [(1, 0), (1, 2)], [(0, 1), (0, 1)], [(0, 1)], [(0, 1), (0, 2), (1, 2)],
                      [[0, 1], [1, 2]], [(0, True), (1, 2)], [(False, 1), (1, 2)], None, [], ((0, 1), (1, 2)),
                      [(0, 1), (1, 3)], [(0, 1), (1, 1)], [(0, 1), (2, 2)], [(0, 1, 2), (1, 2)]):
            self.assertIs(self.assert_tree([0, 1, 2], wrong), False)

    def test_rings(self):
        self.assertIs(self.assert_tree([0, 1, 2, 3], [(0, 1), (0, 2), (1, 2)]), False)
        self.assertIs(self.assert_tree(NAMES, [(0, 1), (0, 3), (1, 3), (4, 7)]), False)
        self.assertIs(self.assert_tree(NAMES, [(0, 1), (0, 4), (1, 3), (3, 4)]), False)
        self.assertIs(self.assert_tree([0, 1, 2], [(0, 1), (0, 2), (1, 2)]), False)

    def test_a_tie_told_twice_in_the_place_of_another(self):
        for tree in ([(0, 1), (0, 1)], [(0, 2), (0, 2)], [(1, 2), (1, 2)]):
            self.assertIs(self.assert_tree([0, 1, 2], tree), False)
        for place in range(1, 4):
            self.assertIs(self.assert_tree(NAMES, TREE[:place] + TREE[place - 1:place] + TREE[place + 1:]), False)
            self.assertIs(self.assert_tree(NAMES, TREE[:place - 1] + TREE[place:place + 1] + TREE[place:]), False)

    def test_all_lists_of_ties_of_few_names(self):
        for names in ([6], [2, 6], [0, 1, 5], [0, 1, 3, 4]):
            pairs = list(combinations(names, 2))
            trees = 0
            for many in range(len(names) + 1):
                for ties in product(pairs, repeat=many):
                    trees += self.assert_tree(names, list(ties))
            self.assertEqual(trees, {1: 1, 2: 1, 3: 3, 4: 16}[len(names)])

    def test_trees_of_ten_names(self):
        chance = random.Random(111)
        for _ in range(30):
            tree = some_tree(chance, TEN)
            self.assertIs(self.assert_tree(TEN, tree), True)
            self.assertIs(self.assert_tree(TEN, tree[::-1]), False)
            place = chance.randrange(9)
            self.assert_tree(TEN, sorted(tree[:place] + tree[place + 1:] + [chance.choice([(0, 9), (3, 4), (1, 7)])]))

    def test_bent_in_one_place(self):
        for names, tree in ((NAMES, TREE), ([0, 1], [(0, 1)]), ([6], []), ([0, 1, 2], [(0, 1), (0, 2)])):
            for thing in bent_trees(tree, names):
                self.assert_tree(names, thing)

    def test_no_names(self):
        for thing in NO_NAMES:
            for tree in (TREE, [], None, [(0, 1)], True, thing):
                with self.subTest(thing=thing, tree=tree), refused(self, "NoNames"):
                    is_tree(thing, tree)


class FirstApart(unittest.TestCase):

    def assert_apart(self, tree, ranking):
        told = first_apart(tree, ranking)
        self.assertEqual(told, first_apart_by_words(tree, ranking), (tree, ranking))
        self.assertIs(type(told), int if told is not None else type(None))
        return told

    def test_ordinary(self):
        for ranking in FOLK:
            self.assertIsNone(self.assert_apart(TREE, ranking))
        for ranking, expected in (
                ([0, 1, 3, 4, 7], 2), ([0, 3, 4, 7, 1], 3), ([3, 0, 1, 4, 7], 4), ([4, 7, 3, 0, 1], None),
                ([4, 3, 7, 0, 1], 2), ([7, 4, 0, 3, 1], 3), ([0, 3, 1, 4, 7], 4), ([1, 3, 0, 7, 4], None)):
            self.assertEqual(self.assert_apart(TREE, ranking), expected)

    def test_one_and_two_names(self):
        self.assertIsNone(self.assert_apart([], [6]))
        self.assertIsNone(self.assert_apart([(2, 6)], [6, 2]))
        self.assertIsNone(self.assert_apart([(2, 6)], [2, 6]))

    def test_all_of_few_names(self):
        for names in ([0, 1, 5], [0, 1, 3, 4]):
            for tree in all_trees(names):
                for ranking in orders(names):
                    self.assert_apart(tree, ranking)

    def test_five_names(self):
        for tree in all_trees(NAMES)[::9]:
            for ranking in orders(NAMES):
                self.assert_apart(tree, ranking)

    def test_ten_names(self):
        chance = random.Random(112)
        for _ in range(30):
            tree = some_tree(chance, TEN)
            for ranking in some_on_tree(chance, tree, TEN, 3):
                self.assertIsNone(self.assert_apart(tree, ranking))
                at = chance.randrange(1, 10)
                self.assert_apart(tree, ranking[:at - 1] + [ranking[at], ranking[at - 1]] + ranking[at + 1:])
            self.assert_apart(tree, chance.sample(TEN, 10))

    def test_no_ranking_ahead_of_no_tree(self):
        for thing in NO_RANKINGS:
            for tree in (TREE, [], [(0, 1)], None, True, thing, [(0, 1), (0, 1)]):
                with self.subTest(thing=thing, tree=tree), refused(self, "NoRanking"):
                    first_apart(tree, thing)

    def test_no_tree(self):
        for ranking, tree in ((FOLK[1], TREE), ([1, 0], [(0, 1)]), ([6], []), ([2, 0, 1], [(0, 1), (0, 2)])):
            for thing in bent_trees(tree, sorted(ranking)):
                if not is_tree_by_words(sorted(ranking), thing):
                    with self.subTest(thing=thing), refused(self, "NoTree"):
                        first_apart(thing, ranking)
        for ranking in ([0, 1, 3, 4, 8], [0, 1, 3, 4], [7], TEN):
            with refused(self, "NoTree"):
                first_apart(TREE, ranking)


class Options(unittest.TestCase):

    def assert_options(self, folk, gone, name):
        told = options(folk, gone, name)
        self.assertEqual(told, options_by_words(folk, gone, name), (folk, gone, name))
        self.assertEqual([type(one) for one in told], [int] * len(told))
        return told

    def test_ordinary(self):
        self.assertEqual(self.assert_options(FOLK, [], 4), [7])
        self.assertEqual(self.assert_options(FOLK, [], 1), [3])
        self.assertEqual(self.assert_options(FOLK, [], 3), [])
        self.assertEqual(self.assert_options(FOLK, [4], 0), [3])
        self.assertEqual(self.assert_options(FOLK, [4, 1, 0], 7), [3])
        self.assertEqual(self.assert_options([[2, 0, 1]], [], 1), [0, 2])
        self.assertEqual(self.assert_options([[2, 0, 1]], [], 2), [0])
        self.assertEqual(self.assert_options([[2, 0, 1]], [], 0), [2])
        self.assertEqual(self.assert_options([[2, 0, 1], [1, 0, 2]], [], 1), [0])
        self.assertEqual(self.assert_options(BARRED, [], 4), [])
        self.assertEqual(self.assert_options([[6, 2]] * 20, [], 2), [6])

    def test_in_any_order(self):
        for gone in permutations([4, 0, 1]):
            self.assertEqual(self.assert_options(FOLK, list(gone), 3), [7])

    def test_all_of_few_names(self):
        chance = random.Random(113)
        for _ in range(60):
            names = chance.sample(range(20), chance.randint(2, 5))
            folk = some_folk(chance, names, chance.randint(1, 4))
            for many in range(len(names) - 1):
                for gone in permutations(names, many):
                    for name in names:
                        if name not in gone:
                            self.assert_options(folk, list(gone), name)

    def test_ten_names_and_twenty_hands(self):
        chance = random.Random(114)
        for _ in range(10):
            folk = some_folk(chance, TEN, 20)
            gone = chance.sample(TEN, chance.randint(0, 8))
            for name in TEN:
                if name not in gone:
                    self.assert_options(folk, gone, name)

    def test_no_folk_ahead_of_all_else(self):
        for thing in NO_FOLKS:
            for gone, name in (([], 0), ([0, 0], 1), (None, None), ([9], True), (thing, thing), ([], [])):
                with self.subTest(thing=thing), refused(self, "NoFolk"):
                    options(thing, gone, name)

    def test_no_names_taken_out(self):
        for gone in ([4, 4], [0, 1, 0], [2], [0, 2], [-1], [LONGEST], [0, 1, 3, 4, 7, 0], [5] * 11, [0, 1, 3, 4, 4]):
            for name in (7, 3, 4, 2, -1, None, True, (), gone):
                with self.subTest(gone=gone, name=name), refused(self, "NoNames"):
                    options(FOLK, gone, name)

    def test_no_name_that_is_left(self):
        for gone in ([], [4], [0, 1], [4, 0, 1]):
            for name in [2, 5, 8, -1, LONGEST] + gone:
                with self.subTest(gone=gone, name=name), refused(self, "NoNames"):
                    options(FOLK, gone, name)

    def test_a_name_that_is_left_alone(self):
        for name in NAMES:
            for one in NAMES:
                with refused(self, "NoNames"):
                    options(FOLK, [other for other in NAMES if other != name], one)
        with refused(self, "NoNames"):
            options(FOLK, NAMES, 4)
        for folk in ([[6]], [[6]] * 20):
            for gone, name in (([], 6), ([6], 6), ([], 0), ([0], 6)):
                with refused(self, "NoNames"):
                    options(folk, gone, name)


def some_folk(chance, names, many):
    """Rankings of some names: on a tree, near one, on a line, or any."""
    way = chance.choice(["tree", "tree", "near", "line", "any"])
    if way == "any":
        return [chance.sample(names, len(names)) for _ in range(many)]
    if way == "line":
        return some_on_line(chance, chance.sample(names, len(names)), many)
    folk = some_on_tree(chance, some_tree(chance, names), names, many)
    if way == "near" and len(names) > 1:
        ranking, at = chance.choice(folk), chance.randrange(1, len(names))
        ranking[at - 1], ranking[at] = ranking[at], ranking[at - 1]
    return folk


class TreeJudged(unittest.TestCase):

    RIGHT = [(FOLK, ("tree", TREE)), (BARRED, ("gone", [3, 4]))]

    def assert_judged(self, folk, paper):
        """What is told of a paper is what the words tell; it is told on."""
        told = tree_judged(folk, paper)
        self.assertEqual(frozen(told), frozen(tree_judged_by_words(folk, paper)), (folk, paper))
        if told is not None:
            self.assertIs(type(told), tuple)
            self.assertIs(type(told[0]), str)
            self.assertEqual([number for number in numbers_in(told) if type(number) is not int], [])
        self.assertEqual(tree_judged(folk, paper), told)
        return told

    def test_right_papers(self):
        self.assertIsNone(self.assert_judged(FOLK, ("tree", TREE)))
        self.assertIsNone(self.assert_judged([[6]], ("tree", [])))
        self.assertIsNone(self.assert_judged([[2, 6], [6, 2]], ("tree", [(2, 6)])))
        self.assertIsNone(self.assert_judged([[0, 1, 2], [1, 2, 0], [2, 0, 1]], ("gone", [2])))
        self.assertIsNone(self.assert_judged([[0, 1, 2], [1, 2, 0], [2, 0, 1]], ("gone", [0])))
        self.assertIsNone(self.assert_judged([[0, 1, 2], [1, 2, 0], [2, 0, 1]], ("gone", [1])))

    def test_no_paper(self):
        for folk, paper in self.RIGHT:
            for thing in bent_papers(paper, ("line", "row", "order", "ring", "hangs", "last", "paper")):
                with self.subTest(thing=thing):
                    self.assertEqual(self.assert_judged(folk, thing), ("paper",))
            for thing in ODD_THINGS:
                self.assertEqual(self.assert_judged(folk, (thing, paper[1])), ("paper",))
                self.assertEqual(self.assert_judged(folk, ("tree", thing, thing)), ("paper",))
                self.assertEqual(self.assert_judged(folk, ("gone", paper[1], thing)), ("paper",))

    def test_no_tree(self):
        for folk, tree in ((FOLK, TREE), ([[1, 0], [0, 1]], [(0, 1)]), ([[6]], []), ([[0, 2, 1]], [(0, 1), (0, 2)])):
            for thing in bent_trees(tree, sorted(folk[0])):
                told = self.assert_judged(folk, ("tree", thing))
                if not is_tree_by_words(folk[0], thing):
                    self.assertEqual(told, ("tree",), thing)

    def test_the_first_hand_whose_ranking_does_not_fall(self):
        fallen, others = [[0, 1, 2], [1, 2, 0], [2, 1, 0]], [[0, 2, 1], [2, 0, 1]]
        for many in range(1, 4):
            for chosen in product(fallen + others, repeat=many):
                folk = [list(ranking) for ranking in chosen]
                wrong = [hand for hand in range(many) if folk[hand] in others]
                told = self.assert_judged(folk, ("tree", [(0, 1), (1, 2)]))
                self.assertEqual(told, ("falls", wrong[0]) if wrong else None)
        ties = sorted(tuple(sorted(pair)) for pair in zip(LONG_LINE, LONG_LINE[1:]))
        self.assertEqual(self.assert_judged([LONG_LINE] * 19 + [TEN], ("tree", ties)), ("falls", 19))

    def test_no_names_gone(self):
        for names in bent_lists([3, 4], [0, 1, 3, 4]):
            # Another list of one name of the folk, or of three, is of the form told still.
            if type(names) is list and len(names) in (1, 3) and all(type(name) is int for name in names):
                self.assert_judged(BARRED, ("gone", names))
            else:
                with self.subTest(names=names):
                    self.assertEqual(self.assert_judged(BARRED, ("gone", names)), ("gone",))
        for names in ([], [0, 1, 3, 4], [4, 3, 1, 0], [4, 4], [3, 4, 3], [2], [3, 4, 5], [0, 1, 3, 4, 4], (3, 4), [True]):
            self.assertEqual(self.assert_judged(BARRED, ("gone", names)), ("gone",))
        for folk in ([[6]], [[6]] * 20):
            for names in ([6], [], [0], [6, 6], None):
                self.assertEqual(self.assert_judged(folk, ("gone", names)), ("gone",))

    def test_the_first_name_that_is_not_last(self):
        for names, expected in (
                ([4], None), ([0], None), ([1], ("last", 0)), ([3, 4], None), ([3, 1], None), ([3, 0], None),
                ([4, 1], ("last", 1)), ([4, 0, 1], ("last", 2)), ([1, 3], ("last", 0)), ([3], ("hangs", 1)),
                ([4, 3], ("hangs", 1)), ([3, 4, 0], ("hangs", 1)), ([3, 4, 1], ("hangs", 0)), ([1, 0, 3], ("last", 0))):
            self.assertEqual(self.assert_judged(BARRED, ("gone", names)), expected)

    def test_the_least_name_at_which_the_last_one_can_hang(self):
        self.assertEqual(self.assert_judged([[2, 0, 1]], ("gone", [1])), ("hangs", 0))
        self.assertEqual(self.assert_judged([[2, 0, 1]], ("gone", [1, 0])), ("hangs", 2))
        self.assertEqual(self.assert_judged([[2, 0, 1, 5, 4]], ("gone", [4])), ("hangs", 0))
        self.assertEqual(self.assert_judged([[2, 0, 1, 5, 4], [2, 1, 5, 0, 4]], ("gone", [4])), ("hangs", 0))
        self.assertEqual(self.assert_judged([[2, 5, 1, 0, 4], [5, 2, 1, 4, 0]], ("gone", [4])), ("hangs", 1))
        self.assertEqual(self.assert_judged([[2, 5, 1, 0, 4], [4, 2, 1, 5, 0]], ("gone", [4])), ("hangs", 2))

    def test_all_papers_of_few_names(self):
        chance = random.Random(115)
        for many in (1, 2, 3, 4):
            for _ in range(25):
                names = chance.sample(range(20), many)
                folk = some_folk(chance, names, chance.randint(1, 4))
                papers = [("tree", tree) for tree in all_trees(names)]
                papers += [("gone", list(gone)) for count in range(many + 1) for gone in permutations(names, count)]
                let_by = {paper[0] for paper in papers if self.assert_judged(folk, paper) is None}
                # Never both, and always one of them.
                self.assertEqual(len(let_by), 1, folk)

    def test_what_is_told(self):
        chance = random.Random(116)
        found = set()
        for _ in range(400):
            folk = some_folk(chance, chance.sample(range(20), 5), chance.randint(1, 4))
            for _ in range(4):
                gone = chance.sample(folk[0], chance.randint(1, 4))
                last_ones = [chance.choice(folk)[-1]]
                for paper in (("gone", gone), ("gone", last_ones), ("tree", some_tree(chance, folk[0]))):
                    told = self.assert_judged(folk, paper)
                    found.add((told and told[0], paper[0]))
        self.assertEqual(found, {(None, "gone"), ("last", "gone"), ("hangs", "gone"), (None, "tree"), ("falls", "tree")})


class TreeTold(unittest.TestCase):

    def assert_let_by(self, folk):
        """The paper that is told is let by; its word is told on."""
        paper = tree_told(folk)
        self.assertIsNone(tree_judged_by_words(folk, paper), (folk, paper))
        self.assertIsNone(tree_judged(folk, paper), (folk, paper))
        self.assertEqual([number for number in numbers_in(paper) if type(number) is not int], [])
        return paper[0]

    def test_ordinary(self):
        self.assertEqual(tree_told(FOLK), ("tree", TREE))
        self.assertEqual(self.assert_let_by(BARRED), "gone")
        self.assertEqual(tree_told([[6]]), ("tree", []))
        self.assertEqual(tree_told([[6, 2], [2, 6]]), ("tree", [(2, 6)]))
        self.assertEqual(self.assert_let_by([[0, 1, 2], [1, 2, 0], [2, 0, 1]]), "gone")
        # A tree, though no line: 3 stands in the middle, and each other name is last once.
        self.assertEqual(tree_told([[3, 0, 1, 2], [3, 1, 2, 0], [3, 2, 0, 1]]), ("tree", [(0, 3), (1, 3), (2, 3)]))

    def test_a_tree_just_where_there_is_one(self):
        chance = random.Random(117)
        words = {"tree": 0, "gone": 0}
        for _ in range(400):
            names = chance.sample(range(30), chance.randint(3, 5))
            folk = some_folk(chance, names, chance.randint(1, 5))
            word = self.assert_let_by(folk)
            self.assertEqual(word == "tree", bool(trees_by_words(folk)), folk)
            words[word] += 1
        self.assertGreater(min(words.values()), 20)

    def test_all_folks_of_two_hands_and_four_names(self):
        for other in orders([0, 1, 3, 2]):
            folk = [[0, 1, 3, 2], other]
            self.assertEqual(self.assert_let_by(folk) == "tree", bool(trees_by_words(folk)))

    def test_all_folks_of_three_hands_and_three_names(self):
        for folk in product(orders([4, 0, 2]), repeat=3):
            folk = list(folk)
            self.assertEqual(self.assert_let_by(folk) == "tree", bool(trees_by_words(folk)))

    def test_one_hand_alone(self):
        for ranking in orders([3, 0, 1, 4]) + [LONG_LINE]:
            self.assertEqual(self.assert_let_by([ranking]), "tree")
            self.assertEqual(self.assert_let_by([ranking] * 20), "tree")

    def test_ten_names_and_twenty_hands_are_told_soon(self):
        chance = random.Random(118)
        words = {"tree": 0, "gone": 0}
        start = time.monotonic()
        for _ in range(60):
            folk = some_folk(chance, TEN, 20)
            words[self.assert_let_by(folk)] += 1
            trees_many(folk)
        self.assertLess(time.monotonic() - start, 30)
        self.assertGreater(min(words.values()), 10)
        for _ in range(10):
            self.assertEqual(self.assert_let_by(some_on_tree(chance, some_tree(chance, TEN), TEN, 20)), "tree")

    def test_long_names(self):
        names = [LONGEST, 0, LONGEST - 1, 10 ** 29]
        self.assertEqual(self.assert_let_by([names, names[::-1]]), "tree")
        self.assertEqual(self.assert_let_by([names, names[1:] + names[:1], names[2:] + names[:2]]), "gone")


class TreesByNumber(unittest.TestCase):

    def assert_numbered(self, folk):
        """The trees of all numbers are all trees on which all fall, each one once; they are told on."""
        expected = trees_by_words(folk)
        many = trees_many(folk)
        self.assertIs(type(many), int)
        self.assertEqual(many, len(expected), folk)
        trees = [tree_by(folk, number) for number in range(many)]
        self.assertEqual(sorted(trees), sorted(expected))
        numbers = [tree_number(folk, tree) for tree in trees]
        self.assertEqual(numbers, list(range(many)))
        self.assertEqual({type(number) for number in numbers} - {int}, set())
        return trees

    def test_ordinary(self):
        self.assertEqual(self.assert_numbered(FOLK), [TREE])
        self.assertEqual(self.assert_numbered(BARRED), [])
        self.assertEqual(self.assert_numbered([[6]]), [[]])
        self.assertEqual(self.assert_numbered([[6]] * 20), [[]])
        self.assertEqual(self.assert_numbered([[6, 2], [2, 6]]), [[(2, 6)]])
        self.assertEqual(len(self.assert_numbered([[2, 0, 1]])), 2)
        self.assertEqual(len(self.assert_numbered([[3, 0, 4, 1]])), 6)
        self.assertEqual(len(self.assert_numbered([[3, 0, 4, 1, 7]])), 24)

    def test_against_all_trees(self):
        chance = random.Random(119)
        counts = set()
        for _ in range(120):
            names = chance.sample(range(30), chance.randint(1, 5))
            counts.add(len(self.assert_numbered(some_folk(chance, names, chance.randint(1, 4)))))
        self.assertGreater(len(counts), 6)

    def test_six_names(self):
        chance = random.Random(120)
        for _ in range(5):
            self.assert_numbered(some_folk(chance, chance.sample(range(30), 6), 2))

    def test_as_many_as_the_product_of_what_each_could_hang_at(self):
        chance = random.Random(121)
        for _ in range(120):
            folk = some_folk(chance, chance.sample(range(30), chance.randint(1, 10)), chance.randint(1, 20))
            gone, ways = [], 1
            while len(gone) < len(folk[0]) - 1:
                lasts = {[name for name in ranking if name not in gone][-1] for ranking in folk}
                name = chance.choice(sorted(lasts))
                ways *= len(options(folk, gone, name))
                gone.append(name)
            self.assertEqual(trees_many(folk), ways)

    def test_many_trees_of_ten_names(self):
        folk = [LONG_LINE]
        self.assertEqual(trees_many(folk), 362880)
        for number in (0, 1, 2, 9, 1000, 181440, 362878, 362879):
            tree = tree_by(folk, number)
            self.assertTrue(is_tree_by_words(TEN, tree))
            self.assertIsNone(first_apart_by_words(tree, LONG_LINE))
            self.assertEqual(tree_number(folk, tree), number)
        chance = random.Random(122)
        for _ in range(40):
            tree = some_tree(chance, TEN)
            folk = some_on_tree(chance, tree, TEN, chance.randint(1, 20))
            number = tree_number(folk, tree)
            self.assertTrue(0 <= number < trees_many(folk))
            self.assertEqual(tree_by(folk, number), tree)

    def test_the_neighbours_of_a_line_are_the_ties_of_such_a_tree(self):
        chance = random.Random(123)
        for _ in range(60):
            line = chance.sample(range(30), chance.randint(1, 10))
            folk = some_on_line(chance, line, chance.randint(1, 20))
            ties = sorted(tuple(sorted(pair)) for pair in zip(line, line[1:]))
            self.assertIsNone(tree_judged(folk, ("tree", ties)))
            self.assertEqual(tree_by(folk, tree_number(folk, ties)), ties)
            self.assertEqual(tree_told(folk)[0], "tree")

    def test_numbers_that_no_tree_has(self):
        for folk, many in ((FOLK, 1), (BARRED, 0), ([[6]], 1), ([[2, 0, 1]], 2), ([[3, 0, 4, 1]], 6), ([LONG_LINE], 362880)):
            self.assertEqual(trees_many(folk), many)
            for number in (-1, -2, many, many + 1, -many - 1, LONGEST, -LONGEST):
                with self.subTest(folk=folk, number=number), refused(self, "NoNumber"):
                    tree_by(folk, number)

    def test_trees_on_which_a_ranking_does_not_fall(self):
        for folk in (FOLK, BARRED, [[2, 0, 1]], [[2, 0, 1], [1, 2, 0]]):
            right = trees_by_words(folk)
            for tree in all_trees(folk[0]):
                if tree not in right:
                    with refused(self, "NoFit"):
                        tree_number(folk, tree)
        with refused(self, "NoFit"):
            tree_number(FOLK + [[0, 1, 3, 4, 7]], TREE)
        with refused(self, "NoFit"):
            tree_number([[0, 1, 3, 4, 7]] + FOLK, TREE)


class Balance(unittest.TestCase):

    def assert_balance(self, folk, tree):
        told = balance(folk, tree)
        self.assertEqual(told, balance_by_words(folk, tree), (folk, tree))
        self.assertIs(type(told), int)
        return told

    def test_ordinary(self):
        self.assertEqual(self.assert_balance(FOLK, TREE), 3)
        line = [(0, 1), (1, 2)]
        for tops, expected in (
                ([0], 0), ([1], 1), ([2], 2), ([0, 2], 0), ([0, 1], 0), ([1, 2], 1), ([0, 0, 2], 0), ([0, 2, 2], 2),
                ([0, 1, 2], 1), ([0, 0, 2, 2], 0), ([0, 1, 2, 2], 1), ([2, 2, 2, 0, 1], 2), ([0, 0, 1, 2], 0)):
            folk = [[top] + [name for name in (1, 0, 2) if name != top] for top in tops]
            self.assertEqual(self.assert_balance(folk, line), expected)

    def test_one_and_two_names(self):
        self.assertEqual(self.assert_balance([[6]], []), 6)
        self.assertEqual(self.assert_balance([[6]] * 20, []), 6)
        self.assertEqual(self.assert_balance([[6, 2]], [(2, 6)]), 6)
        self.assertEqual(self.assert_balance([[6, 2], [2, 6]], [(2, 6)]), 2)
        self.assertEqual(self.assert_balance([[6, 2], [2, 6], [6, 2]], [(2, 6)]), 6)

    def test_all_trees_of_few_names(self):
        chance = random.Random(124)
        for names in ([0, 1, 5], [0, 1, 3, 4], NAMES):
            for tree in all_trees(names):
                folk = [chance.sample(names, len(names)) for _ in range(chance.randint(1, 7))]
                self.assert_balance(folk, tree)

    def test_names_with_many_ties(self):
        star = [(0, 3), (1, 3), (3, 4), (3, 7)]
        for tops, expected in (([0, 1, 4, 7], 3), ([0, 0, 1, 4], 0), ([7, 7, 7, 1], 7), ([7, 7, 1, 4, 0], 3), ([4], 4)):
            folk = [[top] + [name for name in NAMES if name != top] for top in tops]
            self.assertEqual(self.assert_balance(folk, star), expected)

    def test_any_tree_of_ten_names(self):
        chance = random.Random(125)
        for _ in range(60):
            tree = some_tree(chance, TEN)
            self.assert_balance([chance.sample(TEN, 10) for _ in range(chance.randint(1, 20))], tree)

    def test_no_name_stands_ahead_of_it_in_more_than_half_where_all_fall(self):
        chance = random.Random(126)
        for _ in range(80):
            names = sorted(chance.sample(range(30), chance.randint(2, 10)))
            tree = some_tree(chance, names)
            folk = some_on_tree(chance, tree, names, chance.randint(1, 20))
            told = self.assert_balance(folk, tree)
            for other in names:
                ahead_of_it = [1 for ranking in folk if ranking.index(other) < ranking.index(told)]
                self.assertLessEqual(2 * len(ahead_of_it), len(folk))


class Refused(unittest.TestCase):

    def test_no_folk_ahead_of_all_else(self):
        for thing in NO_FOLKS:
            for ask, rest in (
                    (tree_told, ()), (trees_many, ()), (tree_judged, (("tree", []),)), (tree_judged, (None,)),
                    (tree_by, (0,)), (tree_by, (-1,)), (tree_by, (LONGEST,)), (tree_by, (None,)), (tree_by, (True,)),
                    (tree_by, ([],)), (tree_by, ("",)), (tree_number, ([],)), (tree_number, (None,)),
                    (tree_number, ([(0, 1)],)), (balance, ([],)), (balance, ([(0, 1)],)), (balance, (thing,))):
                with self.subTest(ask=ask, thing=thing), refused(self, "NoFolk"):
                    ask(thing, *rest)

    def test_no_tree_behind_that(self):
        for folk, tree in (
                (FOLK, TREE), (BARRED, [(0, 1), (1, 3), (3, 4)]), ([[1, 0]], [(0, 1)]), ([[6]], []),
                ([[0, 2, 1]], [(0, 1), (0, 2)])):
            for thing in bent_trees(tree, sorted(folk[0])):
                if not is_tree_by_words(folk[0], thing):
                    for ask in (tree_number, balance):
                        with self.subTest(ask=ask, thing=thing), refused(self, "NoTree"):
                            ask(folk, thing)


class Own(unittest.TestCase):

    def test_what_is_handed_in_stays_as_it_was(self):
        same = [2, 0, 1]
        for folk in (FOLK, BARRED, [[6]], [same], [same, same], [same, same[::-1], same], [LONG_LINE] * 20):
            check_own(self, tree_told, folk)
            check_own(self, trees_many, folk)
            if trees_many(folk):
                check_own(self, tree_by, folk, 0)
                check_own(self, tree_by, folk, trees_many(folk) - 1)
                tree = tree_by(folk, 0)
                check_own(self, tree_number, folk, tree)
                check_own(self, balance, folk, tree)
                check_own(self, first_apart, tree, folk[0])
                check_own(self, is_tree, sorted(folk[0]), tree)
        for gone in ([], [4], [4, 0, 1]):
            check_own(self, options, FOLK, gone, 3)
        check_own(self, options, [same, same], same[1:2], 1)

    def test_what_is_judged_stays_as_it_was(self):
        for folk, paper in TreeJudged.RIGHT:
            check_own(self, tree_judged, folk, paper)
            check_own(self, tree_judged, folk, (paper[0], paper[1][::-1]))
            check_own(self, tree_judged, folk, list(paper))
        check_own(self, tree_judged, BARRED, ("tree", [(0, 1), (1, 3), (3, 4)]))
        check_own(self, is_tree, NAMES, TREE[::-1])
        check_own(self, first_apart, TREE, [0, 1, 3, 4, 7])

    def test_what_was_handed_in_may_be_changed_behind(self):
        for some in (FOLK, BARRED, [[2, 0, 1]]):
            folk = [list(ranking) for ranking in some]
            told = [tree_told(folk), options(folk, [], folk[0][-1])]
            told += [tree_by(folk, number) for number in range(trees_many(folk))]
            pictures = [frozen(thing) for thing in told]
            for part in inner_lists(folk):
                part.clear()
            self.assertEqual([frozen(thing) for thing in told], pictures)

    def test_the_parts_of_this_file_s_own_look(self):
        self.assertEqual(len(parts_by_words(TREE, NAMES)), 1)
        self.assertEqual(sorted(map(sorted, parts_by_words(TREE, [0, 1, 4, 7]))), [[0], [1], [4, 7]])


if __name__ == "__main__":
    unittest.main()
