"""Points 32 and 33, with points 2 and 4 for them: ontheline.texts."""

import random
import unittest

from by_words_texts import folk_by_words, is_paper_to_write, paper_by_words, ranking_by_words
from ontheline.builder import built
from ontheline.more import order_of
from ontheline.rows import row_built
from ontheline.texts import folk_text, paper_text, ranking_text, read_folk, read_paper, read_ranking
from ontheline.trees import tree_told
from samples import (
    LONGEST, NO_FOLKS, NO_RANKINGS, ODD_THINGS, check_own, frozen, inner_lists, numbers_in, orders, refused,
    some_along_row, some_on_line)

TEN = list(range(10))
LONG_NAMES = [LONGEST, 0, LONGEST - 1, 10 ** 29]
# Names of one figure, of few ones, and of up to thirty.
KNOWN = [TEN, range(1000), [10 ** figures for figures in range(30)]]
SIGNS = "0123459>/- \n~at.,+_=\"'"

PAPERS = {
    "line 3 1 0 4": ("line", [3, 1, 0, 4]),
    "line 0": ("line", [0]),
    "row 2 0 1": ("row", [2, 0, 1]),
    "order 12 0 7": ("order", [12, 0, 7]),
    "ring 4 0 7": ("ring", [4, 0, 7]),
    "gone 3 4": ("gone", [3, 4]),
    "three 3 0 2 / 0 1 4": ("three", [3, 0, 2], [0, 1, 4]),
    "four 2 1 / 0 1 5 4": ("four", [2, 1], [0, 1, 5, 4]),
    "apart 3 0 2 / 0 1 / 2 1 / 5 4": ("apart", [3, 0, 2], [[0, 1], [2, 1], [5, 4]]),
    "cross 4 1 2 0 / 0 1 / 3 7": ("cross", [4, 1, 2, 0], [[0, 1], [3, 7]]),
    "tree 0-3 1-3 3-7": ("tree", [(0, 3), (1, 3), (3, 7)]),
    "tree 0-12": ("tree", [(0, 12)]),
    "tree": ("tree", []),
}
# Numbers that are no names or hands of any folk, and lists that no judge would let by.
OTHER_PAPERS = {
    "line 5 5 5": ("line", [5, 5, 5]),
    "row 99": ("row", [99]),
    "ring 0": ("ring", [0]),
    "gone 1 1": ("gone", [1, 1]),
    "order 0 0 0 0 0 0 0 0 0 0 0 0": ("order", [0] * 12),
    "three 9 9 9 / 9 9 9": ("three", [9] * 3, [9] * 3),
    "four 77 77 / 0 0 0 0": ("four", [77] * 2, [0] * 4),
    "apart 0 0 0 / 1 1 / 1 1 / 1 1": ("apart", [0] * 3, [[1, 1]] * 3),
    "cross 30 31 32 33 / 5 5 / 0 0": ("cross", [30, 31, 32, 33], [[5, 5], [0, 0]]),
    "tree 3-1 1-1 3-1": ("tree", [(3, 1), (1, 1), (3, 1)]),
    "line " + "9" * 30: ("line", [LONGEST]),
    "tree 0-" + "9" * 30: ("tree", [(0, LONGEST)]),
}


def bent_signs(text):
    """Texts that come of one by a sign more, a sign fewer, another sign, or two signs exchanged."""
    bent = []
    for at in range(len(text) + 1):
        bent += [text[:at] + sign + text[at:] for sign in SIGNS]
        bent += [text[:at] + text[at + 1:], text[:at]]
        bent += [text[:at] + sign + text[at + 1:] for sign in SIGNS]
        bent += [text[:at] + text[at + 1:at + 2] + text[at:at + 1] + text[at + 2:]]
    return bent


class Asked(unittest.TestCase):

    def assert_read(self, read, text, expected):
        """What is read of a text is what the words tell of it: a thing, or NoText with its place."""
        if type(expected) is int:
            with self.subTest(text=text), refused(self, "NoText") as held:
                read(text)
            self.assertEqual(held.exception.at, expected, text)
            self.assertIs(type(held.exception.at), int)
        else:
            told = read(text)
            self.assertEqual(frozen(told), frozen(expected), text)
            self.assertEqual({type(number) for number in numbers_in(told)} - {int}, set())
            self.assertEqual(frozen(read(text)), frozen(expected))

    def assert_ranking(self, text):
        told = ranking_by_words(text)
        self.assert_read(read_ranking, text, 0 if told is None else told)

    def assert_folk(self, text):
        self.assert_read(read_folk, text, folk_by_words(text))

    def assert_paper(self, text):
        self.assert_read(read_paper, text, paper_by_words(text))


class Rankings(Asked):

    def test_ordinary(self):
        for ranking, text in (
                ([0, 2, 1], "0>2>1"), ([7], "7"), ([0], "0"), ([12, 0, 305], "12>0>305"), (TEN, "0>1>2>3>4>5>6>7>8>9"),
                ([LONGEST, 0], "9" * 30 + ">0"), ([10 ** 29], "1" + "0" * 29)):
            self.assertEqual(ranking_text(ranking), text)
            self.assertIs(type(ranking_text(ranking)), str)
            self.assertEqual(read_ranking(text), ranking)

    def test_and_back(self):
        chance = random.Random(131)
        for _ in range(100):
            ranking = chance.sample(chance.choice(KNOWN), chance.randint(1, 10))
            self.assertEqual(read_ranking(ranking_text(ranking)), ranking)
            self.assert_ranking(ranking_text(ranking))

    def test_texts_that_write_none(self):
        for text in ("", ">", "0>", ">0", "0>>1", "00", "01", "0>01", "00>1", "0 >1", "0> 1", " 0", "0 ", "0>1\n", "\n",
                     "0\n>1", "a", "0>a", "-1", "0>-1", "+1", "1_0", "0>0", "3>1>3", "0,1", "0<1", "0>1.0", "0x1", "1e3",
                     "0>1>2>3>4>5>6>7>8>9>10", "0>1>2>3>4>5>6>7>8>9>0", "9" * 31, "1" + "0" * 30, "0>" + "9" * 31,
                     "0" * 30, "0" + "9" * 29, "[0]", "0>1>", "~", "(0)", "0;1", "0/1", "0-1"):
            with self.subTest(text=text), refused(self, "NoText") as held:
                read_ranking(text)
            self.assertEqual(held.exception.at, 0)
            self.assert_ranking(text)

    def test_thirty_figures_are_none_too_many(self):
        for text in ("9" * 30, "1" + "0" * 29, "0>" + "8" * 30, "7" * 30 + ">" + "8" * 30):
            self.assertEqual(read_ranking(text), [int(word) for word in text.split(">")])
            self.assert_ranking(text)

    def test_bent_sign_by_sign(self):
        for text in ("0", "10", "0>1", "12>0>3", "0>1>2>3>4>5>6>7>8>9", "9" * 30, "0>" + "1" * 30):
            for bent in bent_signs(text):
                self.assert_ranking(bent)

    def test_no_ranking(self):
        for thing in NO_RANKINGS:
            with self.subTest(thing=thing), refused(self, "NoRanking"):
                ranking_text(thing)


class Folks(Asked):

    def test_ordinary(self):
        for folk, text in (
                ([[0, 1], [1, 0]], "0>1\n1>0\n"), ([[7]], "7\n"), ([[7]] * 3, "7\n7\n7\n"), ([[12, 0, 5]], "12>0>5\n"),
                ([[6]] * 20, "6\n" * 20), ([TEN] * 20, "0>1>2>3>4>5>6>7>8>9\n" * 20)):
            self.assertEqual(folk_text(folk), text)
            self.assertIs(type(folk_text(folk)), str)
            self.assertEqual(read_folk(text), folk)

    def test_and_back(self):
        chance = random.Random(132)
        for _ in range(60):
            names = chance.sample(chance.choice(KNOWN), chance.randint(1, 10))
            folk = [chance.sample(names, len(names)) for _ in range(chance.randint(1, 20))]
            self.assertEqual(read_folk(folk_text(folk)), folk)
            self.assert_folk(folk_text(folk))

    def test_the_first_row_that_can_not_stand_there(self):
        for text, at in (
                ("", 0), ("\n", 0), ("0", 0), ("0>1", 0), ("0>1\n1>0", 1), ("0>1\n\n", 1), ("\n0>1\n", 0),
                ("0>1\n1>0\n\n", 2), ("0>1\n1>0\n ", 2), ("0>1\n1>2\n", 1), ("0>1\n0\n", 1), ("0\n0>1\n", 1),
                ("0>1\n1>0\n0>2\n0>3\n", 2), ("0>1\n01>0\n", 1), ("00\n0\n", 0), ("0>1\n0>1 \n", 1), ("0>1\n 0>1\n", 1),
                ("0>1\n1>0\n0>1>2\n", 2), ("0>1\n1>0\nx\n1>0", 2), ("0>1\n1>0\n1>0\n1", 3), ("0>1\n0>>1\n", 1),
                ("6\n" * 21, 20), ("6\n" * 20 + "6", 20), ("6\n" * 20 + "\n", 20), ("6\n" * 20 + "x", 20),
                ("6\n" * 20 + "7\n", 20), ("6\n" * 25, 20), ("6\n" * 19 + "6", 19), ("6\n" * 19 + "7\n6\n", 19),
                ("6\n" * 21 + "x", 20), (" ", 0), ("0>1\n" + "9" * 31 + "\n", 1), (">", 0)):
            with self.subTest(text=text), refused(self, "NoText") as held:
                read_folk(text)
            self.assertEqual(held.exception.at, at, text)
            self.assert_folk(text)

    def test_bent_sign_by_sign(self):
        for text in ("0\n", "10\n10\n", "0>1\n1>0\n", "12>0>3\n3>0>12\n0>3>12\n", "6\n" * 20):
            for bent in bent_signs(text):
                self.assert_folk(bent)

    def test_rows_left_out_and_exchanged(self):
        rows = ["0>1>2", "1>2>0", "2>1>0", "0>2>1"]
        for order in orders(range(4)):
            self.assert_folk("".join(rows[at] + "\n" for at in order))
            self.assert_folk("\n".join(rows[at] for at in order))
            self.assert_folk("\n\n".join(rows[at] for at in order) + "\n")

    def test_no_folk(self):
        for thing in NO_FOLKS:
            with self.subTest(thing=thing), refused(self, "NoFolk"):
                folk_text(thing)


class PapersWritten(Asked):

    def assert_written(self, thing):
        """A thing is written just where it has the form of a paper, and what is written is read as it."""
        if is_paper_to_write(thing):
            text = paper_text(thing)
            self.assertIs(type(text), str)
            self.assertEqual(frozen(paper_by_words(text)), frozen(thing), thing)
            self.assertEqual(frozen(read_paper(text)), frozen(thing), thing)
        else:
            with self.subTest(thing=thing), refused(self, "NoPaper"):
                paper_text(thing)

    def test_each_form(self):
        for text, paper in [*PAPERS.items(), *OTHER_PAPERS.items()]:
            self.assertEqual(paper_text(paper), text)
            self.assertEqual(frozen(read_paper(text)), frozen(paper))
            self.assert_written(paper)
            self.assert_paper(text)

    def test_what_the_other_functions_tell(self):
        chance = random.Random(133)
        words = set()
        for _ in range(150):
            names = chance.sample(range(30), chance.randint(1, 10))
            some = chance.choice([some_on_line, some_along_row, None])
            many = chance.randint(1, 20)
            folk = some(chance, names, many) if some else [chance.sample(names, len(names)) for _ in range(many)]
            for paper in (built(folk), row_built(folk), tree_told(folk), order_of(folk, [1] * many)):
                self.assert_written(paper)
                words.add(paper[0])
        for folk in ([[0, 3, 1, 2], [2, 3, 1, 0]], [[0, 1, 2, 3], [0, 1, 3, 2], [1, 0, 2, 3], [1, 0, 3, 2]]):
            for paper in (built(folk), row_built(folk)):
                self.assert_written(paper)
                words.add(paper[0])
        self.assertEqual(words, {text.split(" ")[0] for text in PAPERS})

    def test_things_that_are_no_papers(self):
        for thing in ODD_THINGS + [("line",), ("tree",), ("fixed", [0, 1]), ("gains", [0]), ("unlike", [0]), ("paper",),
                                   ("line", [0], [0]), ("line", 0), ("line", "0"), ("line", None), ("tree", [], []),
                                   ("tree", None), ("tree", ()), ("falls", 0), ("order", []), ("order", [[0]]), [[0]]]:
            with self.subTest(thing=thing), refused(self, "NoPaper"):
                paper_text(thing)

    def test_empty_lists(self):
        for word in ("line", "row", "order", "ring", "gone"):
            with refused(self, "NoPaper"):
                paper_text((word, []))
        self.assertEqual(paper_text(("tree", [])), "tree")
        for paper in PAPERS.values():
            for place in range(1, len(paper)):
                if paper[0] != "tree":
                    with refused(self, "NoPaper"):
                        paper_text((*paper[:place], [], *paper[place + 1:]))

    def test_bent_in_one_place(self):
        for paper in [*PAPERS.values(), *OTHER_PAPERS.values()]:
            for thing in bent_ahead(paper):
                self.assert_written(thing)
            for place in range(1, len(paper)):
                for other in bent_parts(paper[place]):
                    self.assert_written((*paper[:place], other, *paper[place + 1:]))

    def test_other_many_lists_of_two(self):
        for word, hands in (("apart", [0, 1, 2]), ("cross", [0, 1, 2, 3])):
            for many in range(6):
                self.assert_written((word, hands, [[0, 1]] * many))
                self.assert_written((word, hands[:many], [[0, 1]] * (5 - len(hands) + (word == "apart"))))
            for pair in ([], [0], [0, 1, 2], (0, 1), 0, None, "01", [0, True], [0, -1], [[0, 1]]):
                for many in (2, 3):
                    self.assert_written((word, hands, [[0, 1]] * (many - 1) + [pair]))
                    self.assert_written((word, hands, [pair] + [[0, 1]] * (many - 1)))


def bent_ahead(paper):
    """Things that are a paper with another word, or with more or fewer things."""
    words = ["line", "row", "order", "ring", "gone", "three", "four", "apart", "cross", "tree", "", "Line", "line ",
             "lines", None, True, 0, (), [], ["line"], ("line",), "fixed"]
    things = [(word, *paper[1:]) for word in words]
    return things + [paper[:-1], paper + (None,), paper + ([0],), paper + paper[-1:], list(paper), (paper,), [paper], ()]


def bent_parts(part):
    """Things that are a list of a paper, bent in one place."""
    things = ODD_THINGS + [tuple(part), [part], part[:-1], part[1:], part + part[:1], part + [0], part + [(0, 1)],
                           part + [[0, 1]], part + [None], part + [True]]
    for place, one in enumerate(part):
        wrong = [None, True, False, -1, "", "0", (), [], (one,), [one], (0,), (0, 1), [0, 1], (0, 1, 2), 5, LONGEST]
        if isinstance(one, (list, tuple)):
            wrong += [list(one), tuple(one), one[:1], one + one, one[::-1]]
            for at in range(2):
                for number in (None, True, -1, "1", (1,), [1]):
                    bent = list(one)
                    bent[at] = number
                    wrong += [bent, tuple(bent)]
        things += [part[:place] + [other] + part[place + 1:] for other in wrong]
    return things


class PapersRead(Asked):

    def test_the_first_word_that_can_not_stand_there(self):
        for text, at in (
                ("", 0), (" ", 0), ("lines 0", 0), ("Line 0", 0), ("0", 0), ("/", 0), (" line 0", 0), ("line\n0", 0),
                ("line", 1), ("row", 1), ("order", 1), ("ring", 1), ("gone", 1), ("three", 1), ("four", 1), ("apart", 1),
                ("cross", 1), ("line ", 1), ("line  0", 1), ("line 0 ", 2), ("line 0  1", 2), ("line 0 / 1", 2),
                ("line 00", 1), ("line 0 01 2", 2), ("line -1", 1), ("line 0>1", 1), ("line 0 x", 2), ("line 0\n", 1),
                ("line 0-1", 1), ("line " + "9" * 31, 1), ("line 0 1 2 3 4 5 6 7 8 9 10 x", 12), ("line /", 1),
                ("tree ", 1), ("tree 0", 1), ("tree 0-1 ", 2), ("tree 0-1  1-2", 2), ("tree 0-1 1-2-3", 2), ("tree -", 1),
                ("tree 0-", 1), ("tree -1", 1), ("tree 0-01", 1), ("tree 0-1 / 1-2", 2), ("tree 0--1", 1),
                ("tree 0-" + "9" * 31, 1), ("tree 0>1", 1), ("tree /", 1),
                ("three 0 1 2 / 3 4", 7), ("three 0 1 2 / 3 4 5 6", 8), ("three 0 1 2 3 4 5", 4), ("three 0 1 / 3 4 5", 3),
                ("three 0 1 2 /", 5), ("three 0 1 2", 4), ("three 0 1 2 / 3 4 5 ", 8), ("three 0 1 2 / / 3 4 5", 5),
                ("three 0 1 2 / 3 x 5 6", 6), ("three / 0 1 2", 1), ("three 0 1 2 / 3 4 5 /", 8), ("three 0 1 2  / 3 4 5", 4),
                ("four 0 1 / 0 1 2", 7), ("four 0 1 2 / 0 1 2 3", 3), ("four 0 1 / 0 1 2 3 4", 8), ("four 0 1", 3),
                ("apart 0 1 2 / 0 1 / 2 3", 10), ("apart 0 1 2 / 0 1 / 2 3 /", 11), ("apart 0 1 2 / 0 1 2 3 4 5", 7),
                ("apart 0 1 2 / 0 1 / 2 3 / 4", 12), ("apart 0 1 2 / 0 1 / 2 3 / 4 5 / 6 7", 13),
                ("cross 0 1 2 3 / 0 1 / 2 3 / 4 5", 11), ("cross 0 1 2 / 0 1 / 2 3", 4), ("cross 0 1 2 3 / 0 1 / 2", 10),
                ("cross 0 1 2 3 / 0 1", 8), ("cross 0 1 2 3 / 0 1 / 2 3 ", 11), ("fixed 0 1", 0), ("gains", 0)):
            with self.subTest(text=text), refused(self, "NoText") as held:
                read_paper(text)
            self.assertEqual(held.exception.at, at, text)
            self.assert_paper(text)

    def test_bent_sign_by_sign(self):
        for text in PAPERS:
            for bent in bent_signs(text):
                self.assert_paper(bent)

    def test_bent_word_by_word(self):
        others = ["", "/", "0", "7", "00", "x", "0-1", "1-0-2", "-", "line", "tree", "three", "9" * 30, "9" * 31, "-1",
                  "0>1", "\n", "0\n"]
        for text in [*PAPERS, *OTHER_PAPERS]:
            words = text.split(" ")
            for at in range(len(words) + 1):
                for other in others:
                    self.assert_paper(" ".join(words[:at] + [other] + words[at:]))
                    self.assert_paper(" ".join(words[:at] + [other] + words[at + 1:]))
                self.assert_paper(" ".join(words[:at]))
                self.assert_paper(" ".join(words[:at] + words[at + 1:]))
                self.assert_paper(" ".join(words[at:] + words[:at]))
                self.assert_paper(" ".join(words[:at]) + " ")

    def test_any_words(self):
        chance = random.Random(134)
        words = ["line", "tree", "three", "four", "apart", "cross", "row", "0", "1", "12", "/", "/", "0-1", "3-2", ""]
        for _ in range(4000):
            some = chance.choices(words, k=chance.randint(1, 9))
            self.assert_paper(" ".join(some))
            self.assert_paper(chance.choice(words[:7]) + " " + " ".join(some))


class Own(unittest.TestCase):

    def test_what_is_handed_in_stays_as_it_was(self):
        same = [2, 0, 1]
        for ranking in (same, [6], TEN, LONG_NAMES):
            check_own(self, ranking_text, ranking)
            check_own(self, folk_text, [ranking, ranking, ranking[::-1]])
            check_own(self, read_ranking, ranking_text(ranking))
            check_own(self, read_folk, folk_text([ranking, ranking, ranking[::-1]]))
        for text, paper in [*PAPERS.items(), *OTHER_PAPERS.items()]:
            check_own(self, paper_text, paper)
            check_own(self, read_paper, text)
        check_own(self, paper_text, ("three", same, same))
        pair = [0, 1]
        check_own(self, paper_text, ("apart", same, [pair, pair, pair]))

    def test_what_was_handed_in_may_be_changed_behind(self):
        paper = ("apart", [3, 0, 2], [[0, 1], [2, 1], [5, 4]])
        text = paper_text(paper)
        for part in inner_lists(paper):
            part.reverse()
        self.assertEqual(text, "apart 3 0 2 / 0 1 / 2 1 / 5 4")
        self.assertEqual(paper_text(paper), "apart 2 0 3 / 4 5 / 1 2 / 1 0")


if __name__ == "__main__":
    unittest.main()
