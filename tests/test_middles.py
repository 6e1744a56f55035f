"""Points 19 to 21, with points 2, 3 and 4 for them: ontheline.middles."""

import random
import time
import unittest
from itertools import combinations, permutations, product

from by_words_more import middle_of_by_words, rule_by_words, rule_judged_by_words, tellings_by_words
from ontheline.middles import middle_of, rule_judged, rule_looked, rule_of
from samples import (
    LONGEST, NO_RANKINGS, ODD_THINGS, bent_lists, bent_papers, check_own, falls_by_words, frozen, inner_lists,
    numbers_in, orders, refused)

TEN = list(range(10))
LONG_LINE = [5, 0, 9, 2, 7, 1, 8, 3, 6, 4]
LINE = [4, 1, 0, 7]
FIXED = [1, 1, 7]
TELLINGS = tellings_by_words(LINE, 2)
RULE = rule_by_words(LINE, 2, FIXED)
# At (0, 0) the rule has 4 in the place of 0: a hand gains by telling 1, of which comes 1.
BENT = [4 if telling == (0, 0) else name for telling, name in zip(TELLINGS, RULE)]
GAINS = ("gains", (0, 0), 1, 1, [0, 1, 7, 4])
# The rule that has what the first hand tells.
FIRST = [telling[0] for telling in TELLINGS]
UNLIKE = ("unlike", (4, 7), 0, 1)

RIGHT = [(RULE, ("fixed", FIXED)), (BENT, GAINS), (FIRST, UNLIKE)]
NO_HANDS = [0, 5, -1, 6, 20, LONGEST, -LONGEST]
# What may be told in any place of a telling, or as a hand or a name, and is none.
NO_NUMBERS = [None, True, False, -1, 2, 8, LONGEST, 10 ** 50, "", "0", (), (0,), [], [0], ((((0,),),),)]


def bent_names_again(right, line):
    """Things that are no list of as many names of a line, perhaps told again."""
    things = ODD_THINGS + [right[:-1], right + right[:1], tuple(right), [right], [[name] for name in right]]
    for place in range(len(right)):
        for wrong in (-1, max(line) + 1, LONGEST, True, False, None, "0", (right[place],), [right[place]], ""):
            things.append(right[:place] + [wrong] + right[place + 1:])
    return things


def bent_tellings(telling):
    """Tellings and others, by one change of a telling."""
    things = [list(telling), telling[:-1], telling + telling[:1], (telling,), [telling], telling[::-1]] + ODD_THINGS
    for place in range(len(telling)):
        for wrong in NO_NUMBERS + LINE:
            things.append(telling[:place] + (wrong,) + telling[place + 1:])
    return things


def is_middles(line, many, rule):
    """Whether a rule is one of middles, by going through all fixed names."""
    return any(rule == rule_by_words(line, many, list(fixed)) for fixed in product(line, repeat=many + 1))


def all_papers(line, many):
    """All papers for a rule that have the form told."""
    tellings = tellings_by_words(line, many)
    fallen = [ranking for ranking in orders(line) if falls_by_words(line, ranking)]
    papers = [("fixed", list(names)) for names in product(line, repeat=many + 1)]
    papers += [("gains", telling, hand, name, ranking) for telling in tellings for hand in range(many)
               for name in line for ranking in fallen if ranking[0] == telling[hand]]
    papers += [("unlike", telling, *hands) for telling in tellings for hands in combinations(range(many), 2)]
    return papers


class MiddleOf(unittest.TestCase):

    def assert_middle(self, line, tops, fixed):
        told = middle_of(line, tops, fixed)
        self.assertEqual(told, middle_of_by_words(line, tops + fixed), (line, tops, fixed))
        self.assertIs(type(told), int)
        self.assertEqual(middle_of(line[::-1], tops, fixed), told)
        return told

    def test_ordinary(self):
        for tops, fixed, expected in (
                ([4, 7], [1, 1, 0], 1), ([7, 7], [1, 1, 0], 0), ([7, 7], [1, 7, 0], 7), ([4, 4], [1, 7, 0], 1),
                ([0], [4, 4], 4), ([0], [4, 7], 0), ([0], [7, 7], 7), ([1], [1, 0], 1), ([4, 0, 7], [1, 1, 1, 1], 1)):
            self.assertEqual(self.assert_middle(LINE, tops, fixed), expected)

    def test_all_of_few_names(self):
        for line in ([2, 0, 1], [0, 5]):
            for many in (1, 2):
                for tops in product(line, repeat=many):
                    for fixed in product(line, repeat=many + 1):
                        self.assert_middle(line, list(tops), list(fixed))

    def test_in_any_order(self):
        for tops in permutations([4, 0, 0]):
            for fixed in set(permutations([7, 1, 7, 1])):
                self.assertEqual(self.assert_middle(LINE, list(tops), list(fixed)), 0)

    def test_names_on_a_longer_line(self):
        chance = random.Random(81)
        for many in range(1, 21):
            for _ in range(8):
                line = chance.sample(range(50), chance.randint(1, 10))
                self.assert_middle(line, chance.choices(line, k=many), chance.choices(line, k=many + 1))
        self.assertEqual(self.assert_middle(LONG_LINE, [5] * 20, [4] * 21), 4)
        self.assertEqual(self.assert_middle(LONG_LINE, [5] * 20, [5] + [4] * 20), 5)
        self.assertEqual(self.assert_middle([LONGEST, 0], [LONGEST], [0, LONGEST]), LONGEST)
        self.assertEqual(self.assert_middle([6], [6] * 3, [6] * 4), 6)

    def test_no_line(self):
        for thing in NO_RANKINGS:
            for rest in (([0], [0, 1]), ([], []), (None, None), (True, [0]), (thing, thing)):
                with self.subTest(thing=thing), refused(self, "NoLine"):
                    middle_of(thing, *rest)

    def test_no_tops_behind_that(self):
        things = ODD_THINGS + [[4] * 21, [4, 1, 0, 7] * 6, [2], [4, 2], [8, 4], [-1], [LONGEST], (4,), (4, 1), 4]
        things += [thing for right in ([4], [1, 0], [7, 7, 7]) for thing in bent_names_again(right, LINE)
                   if not are_tops(thing)]
        for thing in things:
            for fixed in ([4, 4], [1, 1, 0], [4] * 22, [], None, True, thing):
                with self.subTest(thing=thing, fixed=fixed), refused(self, "NoTops"):
                    middle_of(LINE, thing, fixed)

    def test_no_fixed_names_behind_that(self):
        for tops in ([4], [1, 0], [7, 7, 7], [0] * 20):
            right = (LINE * 6)[:len(tops) + 1]
            for thing in bent_names_again(right, LINE) + [tops, right[:-2]]:
                with self.subTest(tops=tops, thing=thing), refused(self, "NoFixed"):
                    middle_of(LINE, tops, thing)


def are_tops(thing):
    """Whether a thing is a list of one name of the line or more, at most twenty."""
    return type(thing) is list and 1 <= len(thing) <= 20 and all(type(one) is int and one in LINE for one in thing)


class RuleOf(unittest.TestCase):

    def assert_rule(self, line, many, fixed):
        told = rule_of(line, many, fixed)
        self.assertEqual(told, rule_by_words(line, many, fixed), (line, many, fixed))
        self.assertEqual(numbers_in(told), told)
        self.assertEqual({type(name) for name in told}, {int})
        self.assertEqual(rule_of(line[::-1], many, fixed), told)
        return told

    def test_telling_by_telling_in_the_order_of_tuples(self):
        # The tellings are (0,), (1,), (4,), (7,), though 4 is the first name of the line.
        self.assertEqual(self.assert_rule(LINE, 1, [4, 7]), [0, 1, 4, 7])
        self.assertEqual(self.assert_rule(LINE, 1, [1, 0]), [0, 1, 1, 0])
        self.assertEqual(self.assert_rule(LINE, 1, [7, 7]), [7, 7, 7, 7])
        self.assertEqual(self.assert_rule([5, 2], 2, [5, 2, 2]), [2, 2, 2, 5])
        self.assertEqual(self.assert_rule([5, 2], 2, [2, 5, 5]), [2, 5, 5, 5])
        self.assertEqual(self.assert_rule([0, 1, 2], 2, [0, 1, 2]), [0, 1, 1, 1, 1, 1, 1, 1, 2])

    def test_by_the_words(self):
        chance = random.Random(82)
        for many in range(1, 5):
            for names in range(1, 6):
                for _ in range(3):
                    line = chance.sample(range(30), names)
                    told = self.assert_rule(line, many, chance.choices(line, k=many + 1))
                    self.assertEqual(len(told), names ** many)

    def test_fixed_names_in_any_order(self):
        for fixed in permutations(FIXED):
            self.assertEqual(self.assert_rule(LINE, 2, list(fixed)), RULE)

    def test_has_what_middle_of_has(self):
        for telling, name in zip(TELLINGS, RULE):
            self.assertEqual(middle_of(LINE, list(telling), FIXED), name)

    def test_long_names(self):
        self.assertEqual(self.assert_rule([LONGEST, 0], 1, [LONGEST, 0]), [0, LONGEST])

    def test_no_fixed_names(self):
        for many in range(1, 5):
            right = (LINE * 2)[:many + 1]
            for thing in bent_names_again(right, LINE):
                with self.subTest(many=many, thing=thing), refused(self, "NoFixed"):
                    rule_of(LINE, many, thing)


class RuleJudged(unittest.TestCase):

    def assert_judged(self, line, many, rule, paper):
        """What is told of a paper is what the words tell; it is told on."""
        told = rule_judged(line, many, rule, paper)
        self.assertEqual(frozen(told), frozen(rule_judged_by_words(line, many, rule, paper)), (line, many, rule, paper))
        if told is not None:
            self.assertIs(type(told), tuple)
            self.assertIs(type(told[0]), str)
            self.assertEqual([number for number in numbers_in(told) if type(number) is not int], [])
        self.assertEqual(rule_judged(line, many, rule, paper), told)
        return told

    def test_right_papers(self):
        for rule, paper in RIGHT:
            self.assertIsNone(self.assert_judged(LINE, 2, rule, paper))
        self.assertIsNone(self.assert_judged(LINE[::-1], 2, RULE, ("fixed", FIXED[::-1])))
        self.assertIsNone(self.assert_judged(LINE[::-1], 2, BENT, GAINS))
        for ranking in ([0, 1, 4, 7], [0, 7, 1, 4], [0, 1, 7, 4]):
            for hand in (0, 1):
                self.assertIsNone(self.assert_judged(LINE, 2, BENT, ("gains", (0, 0), hand, 1, ranking)))

    def test_no_paper(self):
        for rule, paper in RIGHT:
            for thing in bent_papers(paper, ("line", "order", "gain", "telling", "exchange", "paper")):
                with self.subTest(thing=thing):
                    self.assertEqual(self.assert_judged(LINE, 2, rule, thing), ("paper",))
            for word in ("fixed", "gains", "unlike"):
                for many in range(7):
                    things = (word,) + tuple((list(paper[1:]) * 6)[:many])
                    if many != {"fixed": 1, "gains": 4, "unlike": 3}[word]:
                        self.assertEqual(self.assert_judged(LINE, 2, rule, things), ("paper",), things)

    def test_no_fixed_names(self):
        for thing in bent_names_again(FIXED, LINE):
            with self.subTest(thing=thing):
                self.assertEqual(self.assert_judged(LINE, 2, RULE, ("fixed", thing)), ("fixed",))

    def test_fixed_names_that_do_not_stand_along_the_line(self):
        for names in product(LINE, repeat=3):
            told = self.assert_judged(LINE, 2, RULE, ("fixed", list(names)))
            places = [LINE.index(name) for name in names]
            if places != sorted(places):
                self.assertEqual(told, ("fixed",))
            elif list(names) != FIXED:
                self.assertEqual(told[0], "telling")
        self.assertEqual(self.assert_judged(LINE, 2, RULE, ("fixed", FIXED[::-1])), ("fixed",))

    def test_the_first_telling_where_the_rule_has_not_the_middle(self):
        for place, telling in enumerate(TELLINGS):
            for name in LINE:
                if name != RULE[place]:
                    rule = RULE[:place] + [name] + RULE[place + 1:]
                    self.assertEqual(self.assert_judged(LINE, 2, rule, ("fixed", FIXED)), ("telling", telling))
                    for later in range(place + 1, len(RULE)):
                        wrong = rule[:later] + [LINE[LINE.index(RULE[later]) - 1]] + rule[later + 1:]
                        self.assertEqual(rule_judged(LINE, 2, wrong, ("fixed", FIXED)), ("telling", telling))

    def test_what_is_no_telling_hand_name_or_ranking_of_a_gain(self):
        _, telling, hand, name, ranking = GAINS
        for thing in bent_tellings(telling):
            told = self.assert_judged(LINE, 2, BENT, ("gains", thing, hand, name, ranking))
            if thing == list(telling) or type(thing) is not tuple or len(thing) != 2:
                self.assertEqual(told, ("gains",), thing)
        for thing in NO_NUMBERS + [3, -2]:
            with self.subTest(thing=thing):
                for paper in (("gains", telling, thing, name, ranking), ("gains", telling, hand, thing, ranking),
                              ("gains", (thing, 0), hand, name, ranking), ("gains", (0, thing), hand, name, ranking)):
                    self.assertEqual(self.assert_judged(LINE, 2, BENT, paper), ("gains",))
        for place in (2, 3, 4, 7):
            self.assertEqual(self.assert_judged(LINE, 2, BENT, ("gains", telling, place, name, ranking)), ("gains",))
        for thing in bent_lists(ranking, LINE):
            with self.subTest(ranking=thing):
                self.assertEqual(self.assert_judged(LINE, 2, BENT, ("gains", telling, hand, name, thing)), ("gains",))

    def test_rankings_of_a_gain_that_do_not_fall_or_have_another_top(self):
        for ranking in orders(LINE):
            told = self.assert_judged(LINE, 2, BENT, ("gains", (0, 0), 1, 1, ranking))
            fits = ranking[0] == 0 and falls_by_words(LINE, ranking)
            self.assertEqual(told, None if fits else ("gains",))
        # The ranking has the top that the other hand tells.
        self.assertEqual(self.assert_judged(LINE, 2, FIRST, ("gains", (4, 7), 0, 7, [7, 0, 1, 4])), ("gains",))

    def test_what_is_told_instead_is_no_gain(self):
        for rule in (RULE, BENT, FIRST):
            for paper in all_papers(LINE, 2):
                if paper[0] == "gains":
                    told = self.assert_judged(LINE, 2, rule, paper)
                    self.assertIn(told, (None, ("gain",)))
                    if rule != BENT or paper[3] == paper[1][paper[2]]:
                        self.assertEqual(told, ("gain",))

    def test_what_is_no_telling_or_no_hands_of_an_exchange(self):
        _, telling, one, other = UNLIKE
        for thing in bent_tellings(telling):
            told = self.assert_judged(LINE, 2, FIRST, ("unlike", thing, one, other))
            if thing == list(telling) or type(thing) is not tuple or len(thing) != 2:
                self.assertEqual(told, ("unlike",), thing)
        for thing in NO_NUMBERS + [3, -2, 4]:
            with self.subTest(thing=thing):
                self.assertEqual(self.assert_judged(LINE, 2, FIRST, ("unlike", telling, thing, other)), ("unlike",))
                self.assertEqual(self.assert_judged(LINE, 2, FIRST, ("unlike", telling, one, thing)), ("unlike",))
        for hands in ((0, 0), (1, 1), (1, 0), (False, 1), (0, True), (1, 2), (0, 2), (-1, 0), (-1, 1)):
            self.assertEqual(self.assert_judged(LINE, 2, FIRST, ("unlike", telling, *hands)), ("unlike",))

    def test_exchanges(self):
        for telling in TELLINGS:
            expected = ("exchange",) if telling[0] == telling[1] else None
            self.assertEqual(self.assert_judged(LINE, 2, FIRST, ("unlike", telling, 0, 1)), expected)
            self.assertEqual(self.assert_judged(LINE, 2, RULE, ("unlike", telling, 0, 1)), ("exchange",))
        rule = [telling[1] for telling in tellings_by_words([1, 0], 4)]
        for telling in tellings_by_words([1, 0], 4):
            for one, other in combinations(range(4), 2):
                moved = 1 in (one, other) and telling[one] != telling[other]
                told = self.assert_judged([1, 0], 4, rule, ("unlike", telling, one, other))
                self.assertEqual(told, None if moved else ("exchange",))

    def test_what_is_no_telling_ahead_of_what_it_is_said_to_do(self):
        for telling in ([0, 0], (0, True), (0,), (0, 0, 0), (0, 2), None):
            self.assertEqual(self.assert_judged(LINE, 2, RULE, ("gains", telling, 1, 1, [0, 1, 7, 4])), ("gains",))
            self.assertEqual(self.assert_judged(LINE, 2, RULE, ("unlike", telling, 0, 1)), ("unlike",))
        for odd in ODD_THINGS:
            self.assertEqual(self.assert_judged(LINE, 2, RULE, ("gains", odd, odd, odd, odd)), ("gains",))
            self.assertEqual(self.assert_judged(LINE, 2, RULE, ("unlike", odd, odd, odd)), ("unlike",))

    def test_one_hand_alone_and_one_name_alone(self):
        self.assertIsNone(self.assert_judged([6], 1, [6], ("fixed", [6, 6])))
        self.assertIsNone(self.assert_judged([6], 4, [6], ("fixed", [6] * 5)))
        self.assertEqual(self.assert_judged([6], 4, [6], ("fixed", [6] * 4)), ("fixed",))
        self.assertEqual(self.assert_judged([6], 1, [6], ("gains", (6,), 0, 6, [6])), ("gain",))
        self.assertEqual(self.assert_judged([6], 2, [6], ("unlike", (6, 6), 0, 1)), ("exchange",))
        self.assertEqual(self.assert_judged([6], 1, [6], ("unlike", (6,), 0, 0)), ("unlike",))
        self.assertEqual(self.assert_judged([6], 1, [6], ("unlike", (6,), 0, 1)), ("unlike",))
        self.assertIsNone(self.assert_judged([2, 6], 1, [6, 2], ("gains", (2,), 0, 6, [2, 6])))


class NeverBoth(unittest.TestCase):

    def assert_not_both(self, line, many, rule, papers):
        let_by = {paper[0] == "fixed" for paper in papers if rule_judged(line, many, rule, paper) is None}
        self.assertEqual(len(let_by), 1, (line, many, rule))

    def test_all_rules_of_few_hands_and_names(self):
        for line, many in (([6], 1), ([6], 2), ([2, 0], 1), ([2, 0], 2), ([2, 0], 3), ([1, 2, 0], 1)):
            papers = all_papers(line, many)
            for rule in product(line, repeat=len(line) ** many):
                self.assert_not_both(line, many, list(rule), papers)

    def test_some_rules_of_two_hands_and_three_names(self):
        chance = random.Random(83)
        papers = all_papers([1, 2, 0], 2)
        for fixed in product([1, 2, 0], repeat=3):
            rule = rule_of([1, 2, 0], 2, list(fixed))
            self.assert_not_both([1, 2, 0], 2, rule, papers)
            rule[chance.randrange(9)] = chance.choice([1, 2, 0])
            self.assert_not_both([1, 2, 0], 2, rule, papers)


class RuleLooked(unittest.TestCase):

    def assert_let_by(self, line, many, rule):
        """The paper that is told of a rule is let by; its word is told on."""
        paper = rule_looked(line, many, rule)
        self.assertIsNone(rule_judged_by_words(line, many, rule, paper), (line, many, rule, paper))
        self.assertIsNone(rule_judged(line, many, rule, paper), (line, many, rule, paper))
        self.assertEqual([number for number in numbers_in(paper) if type(number) is not int], [])
        if paper[0] == "fixed":
            chosen = dict(zip(tellings_by_words(line, many), rule))
            ends = [(line[-1],) * lasts + (line[0],) * (many - lasts) for lasts in range(many + 1)]
            self.assertEqual(paper[1], [chosen[telling] for telling in ends])
        return paper[0]

    def test_ordinary(self):
        self.assertEqual(rule_looked(LINE, 2, RULE), ("fixed", FIXED))
        self.assertEqual(rule_looked(LINE[::-1], 2, RULE), ("fixed", FIXED[::-1]))
        self.assertEqual(self.assert_let_by(LINE, 2, BENT), "gains")
        self.assertEqual(self.assert_let_by(LINE, 2, FIRST), "unlike")
        self.assertEqual(rule_looked([5, 2], 1, [5, 5]), ("fixed", [5, 5]))
        self.assertEqual(rule_looked([5, 2], 1, [2, 5]), ("fixed", [5, 2]))
        self.assertEqual(self.assert_let_by([5, 2], 1, [5, 2]), "gains")

    def test_rules_of_middles(self):
        chance = random.Random(84)
        for many in range(1, 5):
            for names in range(1, 6):
                for _ in range(4):
                    line = chance.sample(range(30), names)
                    fixed = chance.choices(line, k=many + 1)
                    along = sorted(fixed, key=line.index)
                    self.assertEqual(rule_looked(line, many, rule_by_words(line, many, fixed)), ("fixed", along))
                    self.assert_let_by(line, many, rule_by_words(line, many, fixed))

    def test_rules_in_which_one_telling_was_given_another_name(self):
        words = set()
        for place in range(len(RULE)):
            for name in LINE:
                rule = RULE[:place] + [name] + RULE[place + 1:]
                word = self.assert_let_by(LINE, 2, rule)
                self.assertEqual(word == "fixed", is_middles(LINE, 2, rule), rule)
                words.add(word)
        self.assertLessEqual({"fixed", "gains"}, words)
        chance = random.Random(85)
        for _ in range(30):
            many, line = chance.randint(3, 4), chance.sample(range(30), chance.randint(2, 4))
            rule = rule_by_words(line, many, chance.choices(line, k=many + 1))
            place = chance.randrange(len(rule))
            rule[place] = chance.choice([name for name in line if name != rule[place]])
            self.assert_let_by(line, many, rule)

    def test_all_rules_of_few_hands_and_names(self):
        for line, many in (([6], 3), ([2, 0], 1), ([2, 0], 2), ([2, 0], 3), ([1, 2, 0], 1)):
            for rule in product(line, repeat=len(line) ** many):
                word = self.assert_let_by(line, many, list(rule))
                self.assertEqual(word == "fixed", is_middles(line, many, list(rule)))

    def test_two_hands_and_three_names(self):
        line = [1, 2, 0]
        words = {"fixed": 0, "gains": 0, "unlike": 0}
        for rule in list(product(line, repeat=9))[::29] + [rule_by_words(line, 2, [1, 2, 2])]:
            words[self.assert_let_by(line, 2, list(rule))] += 1
        for one, other in product(line, repeat=2):
            # What the first hand tells, but never ahead of the one and never behind the other.
            rule = [line[min(max(line.index(telling[0]), line.index(one)), line.index(other))]
                    for telling in tellings_by_words(line, 2)]
            words[self.assert_let_by(line, 2, rule)] += 1
        self.assertGreater(min(words.values()), 0)

    def test_any_rules(self):
        chance = random.Random(86)
        for many in range(1, 5):
            for names in range(1, 6):
                line = chance.sample(range(30), names)
                for _ in range(3):
                    self.assert_let_by(line, many, chance.choices(line, k=names ** many))

    def test_the_rule_that_takes_the_top_of_one_hand(self):
        for line in ([2, 0], [1, 2, 0], [3, 0, 1, 4, 2]):
            self.assertEqual(rule_looked(line, 1, sorted(line)), ("fixed", [line[0], line[-1]]))
            for many in (2, 3, 4):
                for hand in range(many):
                    rule = [telling[hand] for telling in tellings_by_words(line, many)]
                    self.assertEqual(self.assert_let_by(line, many, rule), "unlike")

    def test_rules_that_treat_hands_alike_but_for_two(self):
        # The middle of three hands' tops alone: the fourth one is not asked.
        line = [3, 0, 1]
        for left in range(4):
            rule = [middle_of_by_words(line, [*telling[:left], *telling[left + 1:]])
                    for telling in tellings_by_words(line, 4)]
            self.assertEqual(self.assert_let_by(line, 4, rule), "unlike")

    def test_gains_to_either_side(self):
        # One hand: the rule has the middle name 2 everywhere but at one telling.
        line = [4, 0, 2, 1, 3]
        tellings = sorted(line)
        for top in line:
            for name in line:
                rule = [name if telling == top else 2 for telling in tellings]
                word = self.assert_let_by(line, 1, rule)
                self.assertEqual(word == "fixed", is_middles(line, 1, rule))
        self.assertEqual(self.assert_let_by(line, 1, [0, 1, 2, 3, 4][::-1]), "gains")

    def test_four_hands_and_five_names_are_looked_at_soon(self):
        chance = random.Random(87)
        line = [3, 0, 1, 4, 2]
        tellings = tellings_by_words(line, 4)
        rules = [rule_by_words(line, 4, chance.choices(line, k=5)) for _ in range(4)]
        rules += [[telling[3] for telling in tellings], chance.choices(line, k=625)]
        # Only the last telling of all is another one's.
        rules += [rules[0][:-1] + [line[line.index(rules[0][-1]) - 1]]]
        start = time.monotonic()
        for rule in rules:
            paper = rule_looked(line, 4, rule)
            self.assertIsNone(rule_judged(line, 4, rule, paper))
        self.assertLess(time.monotonic() - start, 20)


class Refused(unittest.TestCase):

    SIX = [4, 1, 0, 7, 2, 3]

    def asked(self, line, many):
        """Each of the functions asked of a line and a number of hands, all else right, or not."""
        right = [(rule_of, (line, many, [0, 0, 0])), (rule_judged, (line, many, RULE, ("fixed", FIXED))),
                 (rule_looked, (line, many, RULE))]
        wrong = [(rule_of, (line, many, None)), (rule_judged, (line, many, None, None)),
                 (rule_looked, (line, many, None)), (rule_of, (line, many, [True])),
                 (rule_judged, (line, many, (), ())), (rule_looked, (line, many, []))]
        return right + wrong

    def test_no_line_ahead_of_all_else(self):
        for thing in NO_RANKINGS:
            for many in [2, None, True, "2", (2,), [], thing] + NO_HANDS:
                for ask, handed in self.asked(thing, many):
                    with self.subTest(ask=ask, thing=thing, many=many), refused(self, "NoLine"):
                        ask(*handed)

    def test_six_names_behind_that(self):
        for line in (self.SIX, LONG_LINE, TEN[:7], TEN[:6]):
            for many in [1, 2, 4, None, True, "2", (2,), []] + NO_HANDS:
                for ask, handed in self.asked(line, many):
                    with self.subTest(ask=ask, line=line, many=many), refused(self, "TooGreat"):
                        ask(*handed)

    def test_numbers_of_hands_behind_that(self):
        for line in (LINE, [0], self.SIX[:5]):
            for many in NO_HANDS:
                for ask, handed in self.asked(line, many):
                    with self.subTest(ask=ask, line=line, many=many), refused(self, "NoHand"):
                        ask(*handed)

    def test_five_names_and_four_hands_are_none_too_many(self):
        line = self.SIX[:5]
        self.assertEqual(rule_of(line, 4, [7] * 5), [7] * 36 + rule_of(line, 4, [7] * 5)[36:])
        self.assertEqual(len(rule_of(line, 4, line)), 625)

    def test_no_rule_behind_that_whatever_stands_behind(self):
        for many in (1, 2, 3):
            right = rule_by_words(LINE, many, LINE[:many + 1])
            things = ODD_THINGS + [right[:-1], right + right[:1], right[:4 ** (many - 1)], tuple(right), [right], LINE[1:]]
            for place in (0, len(right) // 2, len(right) - 1):
                for wrong in (-1, 2, 8, LONGEST, True, False, None, "0", (0,), [0], ""):
                    things.append(right[:place] + [wrong] + right[place + 1:])
            for thing in things:
                with self.subTest(many=many, thing=thing):
                    with refused(self, "NoRule"):
                        rule_looked(LINE, many, thing)
                    for paper in (("fixed", LINE[:many + 1]), ("fixed",), None, GAINS, UNLIKE, thing):
                        with refused(self, "NoRule"):
                            rule_judged(LINE, many, thing, paper)
        for many, other in ((1, 2), (2, 3), (3, 2), (4, 3)):
            with refused(self, "NoRule"):
                rule_looked(LINE, many, rule_by_words(LINE, other, LINE[:1] * (other + 1)))


class Own(unittest.TestCase):

    def test_what_is_handed_in_stays_as_it_was(self):
        same = [1, 0]
        for line, many, fixed in (
                (LINE, 2, FIXED), (LINE, 1, [4, 0]), ([6], 1, [6, 6]), ([6], 4, [6] * 5), (same, 1, same),
                ([3, 0, 1, 4, 2], 3, [0, 4, 4, 3])):
            check_own(self, rule_of, line, many, fixed)
            check_own(self, rule_looked, line, many, rule_by_words(line, many, fixed))
            check_own(self, middle_of, line, fixed[:-1], fixed)
        check_own(self, middle_of, same, same[:1], same)
        check_own(self, rule_looked, same, 1, same)
        check_own(self, rule_looked, same, 1, same[::-1])
        for rule, _ in RIGHT:
            check_own(self, rule_looked, LINE, 2, rule)
            check_own(self, rule_looked, LINE[::-1], 2, rule)

    def test_what_is_judged_stays_as_it_was(self):
        for rule, paper in RIGHT:
            check_own(self, rule_judged, LINE, 2, rule, paper)
            check_own(self, rule_judged, LINE, 2, rule, list(paper))
            for other, _ in RIGHT:
                check_own(self, rule_judged, LINE, 2, other, paper)
        check_own(self, rule_judged, LINE, 2, RULE, ("fixed", FIXED[::-1]))
        check_own(self, rule_judged, LINE, 2, BENT, (*GAINS[:4], GAINS[4][::-1]))

    def test_what_was_handed_in_may_be_changed_behind(self):
        for some, _ in RIGHT:
            line, rule, fixed = list(LINE), list(some), list(FIXED)
            told = [rule_looked(line, 2, rule), rule_of(line, 2, fixed)]
            pictures = [frozen(thing) for thing in told]
            for part in inner_lists([line, rule, fixed]):
                part.clear()
            self.assertEqual([frozen(thing) for thing in told], pictures)

    def test_asked_again_of_what_was_changed_meanwhile(self):
        rule = list(RULE)
        self.assertEqual(rule_looked(LINE, 2, rule), ("fixed", FIXED))
        rule[TELLINGS.index((0, 0))] = 4
        self.assertEqual(rule_looked(LINE, 2, rule)[0], "gains")
        self.assertEqual(rule_judged(LINE, 2, rule, ("fixed", FIXED)), ("telling", (0, 0)))
        fixed = list(FIXED)
        told = rule_of(LINE, 2, fixed)
        fixed[0] = 4
        self.assertNotEqual(rule_of(LINE, 2, fixed), told)


if __name__ == "__main__":
    unittest.main()
