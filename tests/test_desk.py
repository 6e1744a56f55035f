"""Points 34 and 35, with points 2 and 3 for them: ontheline.desk."""

import random
import time
import unittest

from by_words_desk import DeskByWords
from ontheline.desk import Desk
from samples import LONGEST, NO_RANKINGS, some_on_line, refused

TEN = list(range(10))
NAMES = [0, 1, 4]
TITLES = ["ann", "bob", "z", "abcdefgh", "come", "hands", "cat", "dee"]
NO_TITLES = ["", "A", "Ann", "abcdefghi", "ann1", "1", "an-n", "an n", "ann\n", "\n", "a.b", "_", "~", "anN", "/", "0>1"]
NO_RANKINGS_OF_DESK = ["", "0", "0>1", "0>4>1>2", "0>1>5", "0>1>1", "0>1>4>0", "00>1>4", "0>1>04", ">0>1>4", "0>1>4>",
                       "0>>1>4", "0-1-4", "0,1,4", "x", "0>1>4\n", "0>1>x", "4", "014", "+0>1>4", "0>1>-4", "0>1>44",
                       "0>1>" + "4" * 31]
NO_NUMBERS = ["", "00", "01", "x", "-1", "+1", "1.0", "1>0", "9" * 31, "1" + "0" * 30, "0" * 30, "1\n", "\n", "1_0", "1,0"]
QUESTIONS_OF_FOLK = ["line", "row", "tree", "order", "lines", "trees", "unbeaten"]


def as_text(names):
    return ">".join(str(name) for name in names)


def all_questions(chance, names, titles):
    """Rows that ask all that can be asked, each now and then of something that isn't there."""
    lines = [as_text(chance.sample(names, len(names))) for _ in range(3)] + [as_text(names)]
    words = [str(name) for name in names] + ["2", str(LONGEST)]
    rows = ["hands"] + QUESTIONS_OF_FOLK + [f"falls {line}" for line in lines] + [f"middle {line}" for line in lines]
    rows += [f"few {line} {many}" for line in lines for many in (0, 1, 2, len(names), len(names) + 1)]
    rows += [f"ahead {one} {other}" for one in words[:4] for other in words[-4:]]
    rows += ["cost " + " ".join(chance.choices(words, k=many)) for many in (1, 2, 3)] + [f"cost {name}" for name in words]
    rows += [f"show {title}" for title in titles]
    rows += [f"nearest {title} {chance.choice(lines)}" for title in titles]
    return rows + [f"unlike {one} {chance.choice(titles)}" for one in titles]


class DeskCase(unittest.TestCase):

    def assert_says(self, desk, by_words, row):
        """The desk answers a row, or refuses it, as the words tell; what is told is told on."""
        expected = by_words.say(row)
        if expected[0] == "told":
            told = desk.say(row)
            self.assertEqual(told, expected[1], row)
            self.assertIs(type(told), str)
        else:
            with self.subTest(row=row), refused(self, expected[1]) as held:
                desk.say(row)
            self.assertEqual(getattr(held.exception, "hand", None), expected[2], row)
        return expected

    def assert_refused(self, desk, kind, row):
        with self.subTest(row=row), refused(self, kind) as held:
            desk.say(row)
        return held.exception

    def desk_with(self, rows, names=NAMES):
        """A desk behind these rows, all of which are deeds."""
        desk = Desk(names)
        for row in rows:
            self.assertEqual(desk.say(row), "ok")
        return desk

    def picture(self, desk, titles=TITLES):
        """What a desk answers to many questions, refusals among them."""
        told = []
        for row in all_questions(random.Random(7), NAMES, titles):
            try:
                told.append(desk.say(row))
            except ValueError as error:
                told.append((type(error).__name__, getattr(error, "hand", None)))
        return told


THREE_COME = ["come ann 0>1>4", "come bob 4>1>0", "come cat 1>0>4"]


class Deeds(DeskCase):

    def test_come(self):
        desk = Desk(NAMES)
        for count, row in enumerate(THREE_COME, 1):
            self.assertEqual(desk.say(row), "ok")
            self.assertEqual(desk.say("hands"), " ".join(["ann", "bob", "cat"][:count]))
        self.assertEqual(desk.say("show bob"), "4>1>0 1")

    def test_turn(self):
        desk = self.desk_with(THREE_COME + ["weigh bob 7", "turn bob 1>4>0"])
        self.assertEqual(desk.say("show bob"), "1>4>0 7")
        self.assertEqual(desk.say("hands"), "ann bob cat")
        self.assertEqual(desk.say("show ann"), "0>1>4 1")
        self.assertEqual(desk.say("show cat"), "1>0>4 1")

    def test_weigh(self):
        desk = self.desk_with(THREE_COME + ["weigh ann 2", "weigh bob " + "9" * 30, "weigh cat 1"])
        self.assertEqual(desk.say("show ann"), "0>1>4 2")
        self.assertEqual(desk.say("show bob"), "4>1>0 " + "9" * 30)
        self.assertEqual(desk.say("show cat"), "1>0>4 1")
        self.assertEqual(desk.say("weigh ann 1"), "ok")
        self.assertEqual(desk.say("show ann"), "0>1>4 1")

    def test_go_and_come_again(self):
        desk = self.desk_with(THREE_COME + ["weigh ann 5", "go ann"])
        self.assertEqual(desk.say("hands"), "bob cat")
        self.assert_refused(desk, "NoTitle", "show ann")
        self.assertEqual(desk.say("come ann 4>0>1"), "ok")
        self.assertEqual(desk.say("hands"), "bob cat ann")
        self.assertEqual(desk.say("show ann"), "4>0>1 1")

    def test_back_deed_by_deed_to_the_first(self):
        rows = THREE_COME + ["weigh bob 3", "turn ann 4>0>1", "go cat", "come dee 0>4>1", "weigh dee 2", "turn dee 0>4>1",
                             "weigh ann 1", "go ann", "go bob", "go dee", "come ann 0>1>4"]
        desk = Desk(NAMES)
        pictures = []
        for row in rows:
            pictures.append(self.picture(desk))
            self.assertEqual(desk.say(row), "ok")
        for row in reversed(rows):
            self.assertEqual(desk.say("back"), "ok", row)
            self.assertEqual(self.picture(desk), pictures.pop(), row)
        for _ in range(2):
            self.assert_refused(desk, "NoBack", "back")
        self.assertEqual(desk.say("hands"), "")

    def test_back_and_on_again(self):
        desk = self.desk_with(THREE_COME + ["back", "come dee 4>1>0", "back", "back", "weigh ann 4", "back"])
        self.assertEqual(desk.say("hands"), "ann")
        self.assertEqual(desk.say("show ann"), "0>1>4 1")
        self.assertEqual(desk.say("back"), "ok")
        self.assert_refused(desk, "NoBack", "back")

    def test_deeds_that_change_nothing_are_taken_back_too(self):
        desk = self.desk_with(["come ann 0>1>4", "turn ann 0>1>4", "weigh ann 1", "back", "back"])
        self.assertEqual(desk.say("hands"), "ann")
        self.assertEqual(desk.say("back"), "ok")
        self.assertEqual(desk.say("hands"), "")

    def test_questions_are_not_taken_back(self):
        desk = self.desk_with(["come ann 0>1>4", "weigh ann 3"])
        for row in all_questions(random.Random(8), NAMES, ["ann"]):
            try:
                desk.say(row)
            except ValueError:
                pass
        self.assertEqual(desk.say("back"), "ok")
        self.assertEqual(desk.say("show ann"), "0>1>4 1")

    def test_twenty_hands(self):
        titles = ["h" + chr(97 + at) for at in range(21)]
        desk = self.desk_with([f"come {title} 0>1>4" for title in titles[:20]])
        self.assertEqual(desk.say("hands"), " ".join(titles[:20]))
        self.assert_refused(desk, "TooGreat", f"come {titles[20]} 0>1>4")
        self.assertEqual(desk.say("hands"), " ".join(titles[:20]))
        # What is due from the left is told ahead of that.
        self.assert_refused(desk, "NoTitle", f"come {titles[19]} 0>1>4")
        self.assert_refused(desk, "NoTitle", "come Ann 0>1>4")
        self.assert_refused(desk, "NoRanking", f"come {titles[20]} 0>1")
        self.assert_refused(desk, "NoRow", f"come {titles[20]}")
        self.assertEqual(desk.say(f"go {titles[3]}"), "ok")
        self.assertEqual(desk.say(f"come {titles[20]} 4>1>0"), "ok")
        self.assertEqual(desk.say("back"), "ok")
        self.assertEqual(desk.say("back"), "ok")
        self.assertEqual(desk.say("hands"), " ".join(titles[:20]))
        self.assertEqual(desk.say("lines"), "4")

    def test_one_name_and_ten_names(self):
        desk = self.desk_with(["come a 6", "come b 6", "weigh b 4"], [6])
        for row, expected in (("line", "line 6"), ("tree", "tree"), ("order", "order 6"), ("lines", "1"), ("trees", "1"),
                              ("unbeaten", "6"), ("cost 6", "0"), ("middle 6", "6 6"), ("few 6 1", "0 6"),
                              ("falls 6", "a b"), ("unlike a b", "0"), ("nearest a 6", "0"), ("show b", "6 4")):
            self.assertEqual(desk.say(row), expected)
        self.assertIn(desk.say("row"), ("row 0 1", "row 1 0"))
        desk = self.desk_with(["come a " + as_text(TEN), "come b " + as_text(TEN[::-1])], TEN)
        self.assertEqual(desk.say("lines"), "2")
        self.assertEqual(desk.say("unlike a b"), "45")
        self.assertEqual(desk.say("few " + as_text(TEN) + " 2"), "0 0 9")


class Questions(DeskCase):

    def test_without_a_hand(self):
        desk = Desk(NAMES)
        self.assertEqual(desk.say("hands"), "")
        self.assertEqual(desk.say("falls 0>1>4"), "")
        self.assertEqual(desk.say("falls 4>0>1"), "")

    def test_ordinary(self):
        desk = self.desk_with(THREE_COME + ["weigh bob 3"])
        for row, expected in (
                ("show ann", "0>1>4 1"), ("show bob", "4>1>0 3"), ("falls 0>1>4", "ann bob cat"), ("falls 1>0>4", "ann cat"),
                ("falls 0>4>1", "bob"), ("unlike ann bob", "3"), ("unlike ann ann", "0"), ("unlike cat ann", "1"),
                ("nearest ann 0>1>4", "0"), ("nearest ann 0>4>1", "1"), ("nearest cat 0>4>1", "1"), ("lines", "2"),
                ("trees", "1"), ("tree", "tree 0-1 1-4"), ("order", "order 4 1 0"), ("unbeaten", "4"), ("ahead 0 1", "-3"),
                ("ahead 1 0", "3"), ("ahead 4 0", "1"), ("cost 0", "7"), ("cost 4 0", "1"), ("cost 0 1 4", "0"),
                ("middle 0>1>4", "4 4"), ("middle 4>1>0", "4 4"), ("few 0>1>4 3", "0 0 1 4")):
            self.assertEqual(desk.say(row), expected, row)
        self.assertIn(desk.say("line"), ("line 0 1 4", "line 4 1 0"))
        self.assertIn(desk.say("row"), ("row 0 2 1", "row 1 2 0"))
        self.assertIn(desk.say("few 0>1>4 1"), ("4 1", "4 4"))
        self.assertIn(desk.say("few 4>1>0 2"), ("1 4 0", "1 4 1"))
        self.assertEqual(desk.say("go bob"), "ok")
        self.assertEqual(desk.say("falls 0>4>1"), "")

    def test_nobody_is_unbeaten_and_nothing_falls(self):
        desk = self.desk_with(["come a 0>1>4", "come b 1>4>0", "come c 4>0>1"])
        self.assertEqual(desk.say("unbeaten"), "")
        self.assertEqual(desk.say("lines"), "0")
        self.assertEqual(desk.say("trees"), "0")
        self.assertEqual(desk.say("ahead 1 0"), "-1")
        self.assertIn(desk.say("order"), ("ring 0 1 4", "ring 1 4 0", "ring 4 0 1"))
        self.assertIn(desk.say("tree"), ("gone 0", "gone 1", "gone 4"))
        self.assertEqual(desk.say("line").split(" ")[0], "three")
        self.assertEqual(desk.say("row").split(" ")[0], "apart")

    def test_a_middle_of_two_names_and_many_unbeaten(self):
        desk = self.desk_with(["come a 0>1>4", "come b 4>1>0"])
        self.assertEqual(desk.say("middle 0>1>4"), "0 4")
        self.assertEqual(desk.say("middle 4>1>0"), "4 0")
        self.assertEqual(desk.say("unbeaten"), "0 1 4")
        self.assertEqual(desk.say("ahead 0 4"), "0")

    def test_margins_of_many_figures(self):
        desk = self.desk_with(["come a 0>1>4", "come b 4>1>0", "weigh a " + "9" * 30, "weigh b " + "8" * 30])
        self.assertEqual(desk.say("ahead 0 4"), "1" * 30)
        self.assertEqual(desk.say("ahead 4 0"), "-" + "1" * 30)
        self.assertEqual(desk.say("cost 1"), str(int("9" * 30) + int("8" * 30)))

    def test_against_the_functions(self):
        chance = random.Random(141)
        for _ in range(50):
            names = sorted(chance.sample(range(12), chance.randint(1, 5)))
            desk, by_words = Desk(names), DeskByWords(names)
            line = chance.sample(names, len(names))
            for title in TITLES[:chance.randint(0, 8)]:
                ranking = chance.choice([some_on_line(chance, line, 1)[0], chance.sample(names, len(names))])
                self.assert_says(desk, by_words, f"come {title} {as_text(ranking)}")
                self.assert_says(desk, by_words, f"weigh {title} {chance.choice([1, 2, 3, LONGEST])}")
            for row in all_questions(chance, names, TITLES[:4]):
                self.assert_says(desk, by_words, row)
                self.assert_says(desk, by_words, row)

    def test_twenty_hands_and_ten_names_are_answered_soon(self):
        chance = random.Random(142)
        titles = ["t" + chr(97 + at) for at in range(20)]
        start = time.monotonic()
        for some in (some_on_line(chance, chance.sample(TEN, 10), 20), [chance.sample(TEN, 10) for _ in range(20)]):
            desk, by_words = Desk(TEN), DeskByWords(TEN)
            for title, ranking in zip(titles, some):
                self.assert_says(desk, by_words, f"come {title} {as_text(ranking)}")
            for row in all_questions(chance, TEN, titles[:3]):
                self.assert_says(desk, by_words, row)
        self.assertLess(time.monotonic() - start, 30)


class ManyRows(DeskCase):

    def any_row(self, chance, names, titles):
        """A row that is right most often, if its title is there."""
        title, ranking = chance.choice(titles), as_text(chance.sample(names, len(names)))
        rows = [f"come {title} {ranking}"] * 4 + [f"turn {title} {ranking}"] * 2
        rows += [f"weigh {title} {chance.randint(0, 4)}"] * 2 + [f"go {title}", "back", "back"]
        rows += chance.sample(all_questions(chance, names, titles), 8)
        row = chance.choice(rows)
        if chance.random() < 0.2:
            words = row.split(" ")
            at = chance.randrange(len(words))
            words[at] = chance.choice(NO_TITLES + NO_NUMBERS + ["0", "1", "0>1>4", "ann", "come", "back", "cost"])
            row = " ".join(words)
        if chance.random() < 0.1:
            row = chance.choice([row + " ", " " + row, row + " 0", row.replace(" ", "  ", 1), row[:-1], row + "\n"])
        return row

    def test_any_rows(self):
        chance = random.Random(143)
        refusals = set()
        for _ in range(60):
            names = sorted(chance.sample(range(8), chance.choice([1, 2, 3, 3, 4])))
            desk, by_words = Desk(names), DeskByWords(names)
            titles = TITLES[:chance.randint(1, 8)]
            for _ in range(60):
                told = self.assert_says(desk, by_words, self.any_row(chance, names, titles))
                refusals.add(told[1] if told[0] == "refused" else None)
        self.assertEqual(refusals, {None, "NoRow", "NoTitle", "NoRanking", "NoLine", "NoNumber", "NoBack", "NoFolk",
                                    "NoFall", "NoNames"})

    def test_as_one_begun_anew(self):
        chance = random.Random(144)
        for _ in range(40):
            desk, by_words = Desk(NAMES), DeskByWords(NAMES)
            for _ in range(25):
                self.assert_says(desk, by_words, self.any_row(chance, NAMES, TITLES[:5]))
            anew = Desk(NAMES)
            for title in desk.say("hands").split():
                ranking, weight = desk.say(f"show {title}").split(" ")
                self.assertEqual(anew.say(f"come {title} {ranking}"), "ok")
                self.assertEqual(anew.say(f"weigh {title} {weight}"), "ok")
            self.assertEqual(self.picture(desk), self.picture(anew))

    def test_two_desks_side_by_side(self):
        chance = random.Random(145)
        names = list(NAMES)
        desks = [Desk(names), Desk(names)]
        by_words = [DeskByWords(NAMES), DeskByWords(NAMES)]
        for _ in range(300):
            at = chance.randrange(2)
            other = self.picture(desks[1 - at], TITLES[:2]) if chance.random() < 0.1 else None
            self.assert_says(desks[at], by_words[at], self.any_row(chance, NAMES, TITLES[:4]))
            if other is not None:
                self.assertEqual(self.picture(desks[1 - at], TITLES[:2]), other)
        self.assertEqual(desks[0].say("hands"), " ".join(by_words[0].titles()))
        self.assertEqual(desks[1].say("hands"), " ".join(by_words[1].titles()))

    def test_names_that_are_changed_behind(self):
        names = list(NAMES)
        desk = Desk(names)
        self.assertEqual(names, NAMES)
        self.assertEqual(desk.say("come ann 0>1>4"), "ok")
        names.append(7)
        names[0] = 3
        self.assertEqual(desk.say("come bob 4>1>0"), "ok")
        self.assert_refused(desk, "NoRanking", "come cat 3>1>4>7")
        self.assertEqual(desk.say("falls 0>1>4"), "ann bob")
        names.clear()
        self.assertEqual(desk.say("turn bob 1>0>4"), "ok")
        self.assertEqual(Desk([2]).say("hands"), "")
        self.assertEqual(desk.say("hands"), "ann bob")


class Refusals(DeskCase):

    def setUp(self):
        self.desk = self.desk_with(["come ann 0>1>4", "come bob 4>1>0", "weigh bob 2"])
        self.before = self.picture(self.desk)

    def tearDown(self):
        """What is refused changes nothing, and can't be taken back."""
        self.assertEqual(self.picture(self.desk), self.before)
        self.assertEqual(self.desk.say("back"), "ok")
        self.assertEqual(self.desk.say("show bob"), "4>1>0 1")
        self.assertEqual(self.desk.say("hands"), "ann bob")
        self.assertEqual(self.desk.say("back"), "ok")
        self.assertEqual(self.desk.say("back"), "ok")
        self.assert_refused(self.desk, "NoBack", "back")

    def test_no_row(self):
        right = ["come cat 0>1>4", "turn ann 0>1>4", "weigh ann 2", "go ann", "back", "hands", "show ann", "falls 0>1>4",
                 "unlike ann bob", "nearest ann 0>1>4", "line", "row", "tree", "order", "lines", "trees", "unbeaten",
                 "ahead 0 1", "middle 0>1>4", "few 0>1>4 1"]
        for row in right:
            words = row.split(" ")
            for bent in (row + " ", row + " x", row + " 0", " " + row, row.upper(), words[0] + "s " + " ".join(words[1:]),
                         " ".join(words + words), words[0][:-1] + " " + " ".join(words[1:]), "\n" + row):
                if bent != "lines ":
                    self.assert_refused(self.desk, "NoRow", bent)
            if len(words) > 1:
                self.assert_refused(self.desk, "NoRow", words[0])
                self.assert_refused(self.desk, "NoRow", words[0] + "  " + " ".join(words[1:]))
                self.assert_refused(self.desk, "NoRow", " ".join(words[1:]))
                if len(words) == 3:
                    self.assert_refused(self.desk, "NoRow", " ".join(words[:2]))
        for row in ("", " ", "  ", "\n", "cost", "x", "0", "hello", "Come ann 0>1>4", "hands\n", "back\n", "line\n", "ok",
                    "fixed", "three", "costs 0", "0>1>4", "ann", "come", "come cat", "come cat 0>1>4 1", "hands hands"):
            self.assert_refused(self.desk, "NoRow", row)

    def test_no_title(self):
        for title in NO_TITLES:
            if " " not in title:
                for row in (f"come {title} 0>1>4", f"come {title} x", f"turn {title} 0>1>4", f"turn {title} x",
                            f"weigh {title} 2", f"weigh {title} 0", f"go {title}", f"show {title}", f"unlike {title} ann",
                            f"unlike ann {title}", f"unlike {title} {title}", f"nearest {title} 0>1>4",
                            f"nearest {title} x"):
                    self.assert_refused(self.desk, "NoTitle", row)
        for row in ("turn cat 0>1>4", "turn cat x", "weigh cat 2", "weigh cat x", "go cat", "show cat", "unlike cat ann",
                    "unlike ann cat", "nearest cat 0>1>4", "nearest cat x", "come ann 0>1>4", "come bob 0>1>4",
                    "come ann x", "come bob 0>1"):
            self.assert_refused(self.desk, "NoTitle", row)

    def test_no_ranking(self):
        for word in NO_RANKINGS_OF_DESK:
            self.assert_refused(self.desk, "NoRanking", f"come cat {word}")
            self.assert_refused(self.desk, "NoRanking", f"turn ann {word}")

    def test_no_line(self):
        for word in NO_RANKINGS_OF_DESK:
            for row in (f"falls {word}", f"nearest ann {word}", f"middle {word}", f"few {word} 1", f"few {word} x",
                        f"few {word} 0"):
                self.assert_refused(self.desk, "NoLine", row)
                if not row.startswith("nearest"):
                    self.assert_refused(Desk(NAMES), "NoLine", row)

    def test_no_number(self):
        for word in NO_NUMBERS:
            for row in (f"weigh ann {word}", f"ahead {word} 0", f"ahead 0 {word}", f"ahead {word} {word}", f"cost {word}",
                        f"cost 0 {word}", f"cost {word} 0 0", f"cost 0 0 {word}", f"few 0>1>4 {word}",
                        f"few 0>4>1 {word}", f"ahead 9 {word}", f"cost 9 {word}"):
                self.assert_refused(self.desk, "NoNumber", row)
                if not row.startswith("weigh"):
                    self.assert_refused(Desk(NAMES), "NoNumber", row)
        self.assert_refused(self.desk, "NoNumber", "weigh ann 0")
        self.assert_refused(self.desk, "NoNumber", "cost ")
        self.assert_refused(self.desk, "NoNumber", "cost 0 ")

    def test_the_first_one_that_is_due_from_the_left(self):
        for row, kind in (
                ("come Ann x", "NoTitle"), ("come cat x", "NoRanking"), ("turn cat x", "NoTitle"), ("turn ann x", "NoRanking"),
                ("weigh cat x", "NoTitle"), ("weigh ann x", "NoNumber"), ("nearest cat x", "NoTitle"),
                ("nearest ann x", "NoLine"), ("few x x", "NoLine"), ("few 0>1>4 x", "NoNumber"), ("unlike cat Ann", "NoTitle"),
                ("ahead x y", "NoNumber"), ("cost 0 x 0", "NoNumber"), ("turn Ann 0>1>4 x", "NoRow"), ("few x", "NoRow")):
            self.assert_refused(self.desk, kind, row)

    def test_what_the_stages_refuse(self):
        for row in ("ahead 0 0", "ahead 2 0", "ahead 0 2", "ahead 9 9", "ahead " + "9" * 30 + " 0", "cost 0 0", "cost 2",
                    "cost 0 1 2", "cost 0 1 4 0", "cost " + "9" * 30, "cost 0 1 4 0 1 4 0 1 4 0 1 4"):
            self.assert_refused(self.desk, "NoNames", row)
        for row, hand in (("middle 0>4>1", 0), ("middle 1>0>4", 1), ("few 0>4>1 1", 0), ("few 1>0>4 2", 1),
                          ("few 1>0>4 0", 1), ("few 4>0>1 9", 1)):
            self.assertEqual(self.assert_refused(self.desk, "NoFall", row).hand, hand)
        for row in ("few 0>1>4 0", "few 0>1>4 4", "few 4>1>0 " + "9" * 30):
            self.assert_refused(self.desk, "NoNumber", row)

    def test_no_folk(self):
        rows = QUESTIONS_OF_FOLK + ["ahead 0 1", "ahead 0 0", "ahead 9 8", "cost 0", "cost 0 0", "cost 9", "middle 0>1>4",
                                    "few 0>1>4 1", "few 0>1>4 0", "few 0>1>4 9"]
        empty = Desk(NAMES)
        behind = self.desk_with(["come ann 0>1>4", "go ann"])
        for row in rows:
            self.assert_refused(empty, "NoFolk", row)
            self.assert_refused(behind, "NoFolk", row)
        self.assertEqual(behind.say("back"), "ok")
        self.assertEqual(behind.say("lines"), "4")
        self.assert_refused(empty, "NoBack", "back")

    def test_no_names(self):
        things = NO_RANKINGS + [[1, 0], [0, 2, 1], [4, 1, 0], TEN[::-1], [LONGEST, 0], [1, 1], [0, 1, 1]]
        for thing in things:
            with self.subTest(thing=thing), refused(self, "NoNames"):
                Desk(thing)
        for names in ([0], [7], [0, 1], [0, LONGEST], TEN):
            self.assertEqual(Desk(names).say("hands"), "")


if __name__ == "__main__":
    unittest.main()
