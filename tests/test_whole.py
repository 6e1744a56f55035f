"""Point 3, sentence by sentence, over the whole program: by what is told, and what the judges let by."""

import random
import unittest
from itertools import combinations, permutations, product

from by_words import all_bars, all_line_papers
from by_words_more import cost_by_words, margin_by_words, tellings_by_words
from by_words_trees import all_on_line, all_trees, some_on_tree, some_tree
from ontheline.builder import built
from ontheline.desk import Desk
from ontheline.few import few, few_judged
from ontheline.judge import judged
from ontheline.lines import all_lines, number_on, ranking_on
from ontheline.middles import rule_judged, rule_looked, rule_of
from ontheline.more import middle, order_judged, order_of
from ontheline.nearest import nearest, nearest_judged
from ontheline.rows import row_built, row_judged
from ontheline.texts import folk_text, paper_text, ranking_text, read_folk, read_paper
from ontheline.trees import tree_judged, tree_told, trees_many
from samples import falls_by_words, frozen, orders, some_along_row, some_on_line, some_weights

TEN = list(range(10))


def any_folk(chance, names, many):
    """Rankings of some names: on a line, along a row, on a tree, or any."""
    way = chance.choice(["line", "row", "tree", "any"])
    if way == "line":
        return some_on_line(chance, chance.sample(names, len(names)), many)
    if way == "row":
        folk = some_along_row(chance, names, many)
        return chance.sample(folk, len(folk))
    if way == "tree":
        return some_on_tree(chance, some_tree(chance, names), names, many)
    return [chance.sample(names, len(names)) for _ in range(many)]


class JustOneOfTwoPapers(unittest.TestCase):

    def assert_one(self, papers, judge, told, first):
        """Of all papers only those of one side are let by, and one of these is told."""
        sides = {paper[0] == first for paper in papers if judge(paper) is None}
        self.assertEqual(sides, {told[0] == first})
        self.assertIsNone(judge(told))

    def test_a_line_or_a_bar(self):
        chance = random.Random(151)
        for many in (1, 2, 3, 4):
            for _ in range(15):
                folk = any_folk(chance, chance.sample(range(9), many), chance.randint(1, 3))
                self.assert_one(all_line_papers(folk), lambda paper: judged(folk, paper), built(folk), "line")

    def test_a_row_or_a_bar(self):
        chance = random.Random(152)
        for many in (1, 2, 3):
            for _ in range(8):
                folk = any_folk(chance, chance.sample(range(9), many), chance.randint(1, 4))
                papers = [("row", list(row)) for row in permutations(range(len(folk)))] + all_bars(folk)
                self.assert_one(papers, lambda paper: row_judged(folk, paper), row_built(folk), "row")

    def test_an_order_or_a_ring(self):
        chance = random.Random(153)
        for many in (1, 2, 3, 4, 5):
            for _ in range(12):
                folk = any_folk(chance, chance.sample(range(9), many), chance.randint(1, 4))
                weights = some_weights(chance, len(folk))
                papers = [(word, list(some)) for word in ("order", "ring") for count in range(many + 1)
                          for some in permutations(folk[0], count)]
                self.assert_one(papers, lambda paper: order_judged(folk, weights, paper), order_of(folk, weights), "order")

    def test_a_tree_or_names_taken_out(self):
        chance = random.Random(154)
        for many in (1, 2, 3, 4, 5):
            for _ in range(12):
                folk = any_folk(chance, chance.sample(range(9), many), chance.randint(1, 4))
                papers = [("tree", tree) for tree in all_trees(folk[0])]
                papers += [("gone", list(some)) for count in range(many + 1) for some in permutations(folk[0], count)]
                self.assert_one(papers, lambda paper: tree_judged(folk, paper), tree_told(folk), "tree")

    def test_papers_of_greater_folks_are_let_by_behind_their_texts_too(self):
        chance = random.Random(155)
        words = set()
        for _ in range(120):
            folk = any_folk(chance, chance.sample(range(40), chance.randint(1, 10)), chance.randint(1, 20))
            weights = some_weights(chance, len(folk))
            for paper, judge in (
                    (built(folk), lambda paper: judged(folk, paper)),
                    (row_built(folk), lambda paper: row_judged(folk, paper)),
                    (tree_told(folk), lambda paper: tree_judged(folk, paper)),
                    (order_of(folk, weights), lambda paper: order_judged(folk, weights, paper))):
                words.add(paper[0])
                self.assertIsNone(judge(paper))
                self.assertEqual(frozen(read_paper(paper_text(paper))), frozen(paper))
        self.assertLessEqual({"line", "three", "row", "apart", "tree", "gone", "order", "ring"}, words)

    def test_a_line_is_a_tree_too_and_a_bar_of_trees_is_one_of_lines(self):
        chance = random.Random(156)
        for _ in range(100):
            folk = any_folk(chance, chance.sample(range(40), chance.randint(1, 10)), chance.randint(1, 20))
            if built(folk)[0] == "line":
                self.assertEqual(tree_told(folk)[0], "tree")
                lines = all_lines(folk)
                self.assertIn(built(folk)[1], lines)
                self.assertEqual(sorted(line[::-1] for line in lines), lines)
            else:
                self.assertEqual(all_lines(folk), [])
            if tree_told(folk)[0] == "gone":
                self.assertNotEqual(built(folk)[0], "line")
                self.assertEqual(trees_many(folk), 0)


class OnALine(unittest.TestCase):

    def test_who_is_put_ahead_never_goes_round_and_a_middle_top_is_behind_nobody(self):
        chance = random.Random(157)
        for _ in range(80):
            line = chance.sample(range(40), chance.randint(1, 10))
            folk = some_on_line(chance, line, chance.randint(1, 20))
            weights = some_weights(chance, len(folk))
            self.assertEqual(order_of(folk, weights)[0], "order")
            for name in middle(folk, weights, line):
                others = [other for other in line if other != name]
                self.assertTrue(all(margin_by_words(folk, weights, name, other) >= 0 for other in others))

    def test_no_ring_is_let_by_where_all_fall(self):
        chance = random.Random(158)
        for _ in range(20):
            line = chance.sample(range(40), 5)
            folk = some_on_line(chance, line, chance.randint(1, 5))
            weights = some_weights(chance, len(folk))
            for count in (3, 4, 5):
                for some in permutations(line, count):
                    self.assertEqual(order_judged(folk, weights, ("ring", list(some)))[0], "beats")

    def test_the_rankings_that_fall_have_just_the_numbers_from_0_on(self):
        for line in ([6], [2, 6], [5, 0, 3], [4, 1, 0, 7, 2], [5, 0, 9, 2, 7, 1, 8, 3, 6, 4]):
            fallen = all_on_line(line)
            numbers = [number_on(line, ranking) for ranking in fallen]
            self.assertEqual(sorted(numbers), list(range(2 ** (len(line) - 1))))
            self.assertEqual([ranking_on(line, number) for number in numbers], fallen)

    def test_few_names_are_told_with_a_table_by_which_no_others_cost_less(self):
        chance = random.Random(159)
        for _ in range(30):
            line = chance.sample(range(40), chance.randint(1, 7))
            folk = some_on_line(chance, line, chance.randint(1, 8))
            weights = some_weights(chance, len(folk))
            for many in range(1, len(line) + 1):
                told = few(folk, weights, line, many)
                self.assertIsNone(few_judged(folk, weights, line, many, told))
                for some in combinations(line, many):
                    price = cost_by_words(folk, weights, some)
                    self.assertGreaterEqual(price, told[0])
                    # With this table none that cost more are let by.
                    answer = few_judged(folk, weights, line, many, (price, list(some), told[2]))
                    self.assertEqual(answer is None, price == told[0])

    def test_no_ranking_that_falls_is_nearer_than_what_is_told(self):
        chance = random.Random(160)
        for _ in range(30):
            line = chance.sample(range(40), chance.randint(1, 7))
            ranking = chance.sample(line, len(line))
            told = nearest(line, ranking)
            self.assertIsNone(nearest_judged(line, ranking, told))
            self.assertEqual(told[0] == 0, falls_by_words(line, ranking))
            self.assertTrue(falls_by_words(line, told[1]))


class RulesOfMiddles(unittest.TestCase):

    def test_by_a_rule_of_middles_no_hand_gains_by_telling_otherwise(self):
        chance = random.Random(161)
        for many, names in ((1, 4), (2, 3), (3, 2), (2, 4)):
            line = chance.sample(range(9), names)
            fallen = [ranking for ranking in orders(line) if falls_by_words(line, ranking)]
            for _ in range(3):
                rule = rule_of(line, many, chance.choices(line, k=many + 1))
                for telling in tellings_by_words(line, many):
                    for hand, name, ranking in product(range(many), line, fallen):
                        paper = ("gains", telling, hand, name, ranking)
                        self.assertEqual(rule_judged(line, many, rule, paper),
                                         ("gain",) if ranking[0] == telling[hand] else ("gains",))
                    for hands in combinations(range(many), 2):
                        self.assertEqual(rule_judged(line, many, rule, ("unlike", telling, *hands)), ("exchange",))

    def test_any_table_that_treats_hands_alike_is_told_with_one_of_the_papers(self):
        chance = random.Random(162)
        words = set()
        for _ in range(60):
            line, many = chance.sample(range(9), chance.randint(1, 5)), chance.randint(1, 4)
            rule = rule_of(line, many, chance.choices(line, k=many + 1))
            # The same name at each two tellings that are alike but for who tells what.
            other = {tuple(sorted(telling)): chance.choice(line) for telling in tellings_by_words(line, many)}
            alike = [other[tuple(sorted(telling))] for telling in tellings_by_words(line, many)]
            for table in (rule, alike):
                paper = rule_looked(line, many, table)
                words.add(paper[0])
                self.assertIsNone(rule_judged(line, many, table, paper))
                if table is alike:
                    self.assertNotEqual(paper[0], "unlike")
            self.assertEqual(rule_looked(line, many, rule)[0], "fixed")
        self.assertEqual(words, {"fixed", "gains"})


class BehindEveryRowOfDeeds(unittest.TestCase):

    QUESTIONS = ["hands", "line", "row", "tree", "order", "lines", "trees", "unbeaten", "cost 0", "ahead 0 1",
                 "show a", "show b", "middle 0>1>2>3", "falls 0>1>2>3", "few 0>1>2>3 2", "nearest a 0>2>1>3", "back"]

    def answers(self, desk, row):
        try:
            return desk.say(row)
        except ValueError as error:
            return type(error).__name__

    def test_a_desk_tells_what_one_begun_anew_tells(self):
        chance = random.Random(163)
        names = [0, 1, 2, 3]
        for _ in range(60):
            desk, done = Desk(names), []
            for _ in range(30):
                title = chance.choice("abcd")
                ranking = ranking_text(chance.sample(names, 4))
                row = chance.choice([f"come {title} {ranking}", f"turn {title} {ranking}", f"weigh {title} 3",
                                     f"go {title}", "back", f"weigh {title} 0", "hands", "lines"])
                if self.answers(desk, row) == "ok":
                    done = done[:-1] if row == "back" else done + [row]
            # Those of the deeds that were not taken back, told to a desk begun anew.
            anew = Desk(names)
            self.assertEqual([anew.say(row) for row in done], ["ok"] * len(done))
            for row in self.QUESTIONS + ["back"] * len(done):
                self.assertEqual(self.answers(desk, row), self.answers(anew, row))

    def test_the_desk_s_papers_are_let_by(self):
        chance = random.Random(164)
        for _ in range(40):
            names = sorted(chance.sample(range(30), chance.randint(1, 10)))
            folk = any_folk(chance, names, chance.randint(1, 20))
            desk = Desk(names)
            for hand, ranking in enumerate(folk):
                self.assertEqual(desk.say(f"come {chr(97 + hand)} {ranking_text(ranking)}"), "ok")
            self.assertIsNone(judged(folk, read_paper(desk.say("line"))))
            self.assertIsNone(row_judged(folk, read_paper(desk.say("row"))))
            self.assertIsNone(tree_judged(folk, read_paper(desk.say("tree"))))
            self.assertIsNone(order_judged(folk, [1] * len(folk), read_paper(desk.say("order"))))
            shown = "".join(desk.say("show " + title).split(" ")[0] + "\n" for title in desk.say("hands").split(" "))
            self.assertEqual((shown, read_folk(shown)), (folk_text(folk), folk))


if __name__ == "__main__":
    unittest.main()
