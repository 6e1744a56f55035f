"""What a desk tells, by the words of points 34 and 35: hands kept in a list, asked of the functions one by one."""

import re

from by_words_texts import NUMBER, ranking_by_words
from ontheline.builder import built
from ontheline.errors import FolkError
from ontheline.few import cost, few
from ontheline.lines import all_lines, falls
from ontheline.more import margin, middle, order_of, unbeaten
from ontheline.nearest import nearest
from ontheline.rankings import unlike
from ontheline.rows import row_built
from ontheline.texts import paper_text, ranking_text
from ontheline.trees import tree_told, trees_many

# What stands behind each first word: a new title, a title, a ranking, a line, a number, a weight.
ROWS = {
    "come": "NR", "turn": "TR", "weigh": "TW", "go": "T", "back": "", "hands": "", "show": "T", "falls": "L",
    "unlike": "TT", "nearest": "TL", "line": "", "row": "", "tree": "", "order": "", "lines": "", "trees": "",
    "unbeaten": "", "ahead": "##", "middle": "L", "few": "L#",
}
OF_FOLK = ("line", "row", "tree", "order", "lines", "trees", "unbeaten", "ahead", "cost", "middle", "few")
REFUSED = {"N": "NoTitle", "T": "NoTitle", "R": "NoRanking", "L": "NoLine", "#": "NoNumber", "W": "NoNumber"}


class DeskByWords:

    def __init__(self, names):
        self.names = sorted(names)
        self.hands = []
        self.past = []

    def titles(self):
        return [title for title, _, _ in self.hands]

    def is_right(self, kind, word):
        if kind == "N":
            return bool(re.fullmatch("[a-z]{1,8}", word)) and word not in self.titles()
        if kind == "T":
            return word in self.titles()
        if kind in "RL":
            return sorted(ranking_by_words(word) or []) == self.names
        return bool(re.fullmatch(NUMBER, word)) and (kind == "#" or word != "0")

    def refusal(self, words):
        """The name of the refusal that the row itself is due, or None."""
        word, *rest = words
        kinds = "#" * len(rest) if word == "cost" and rest else ROWS.get(word)
        if kinds is None or len(kinds) != len(rest):
            return "NoRow"
        for kind, other in zip(kinds, rest):
            if not self.is_right(kind, other):
                return REFUSED[kind]
        if word == "come" and len(self.hands) == 20:
            return "TooGreat"
        if word == "back" and not self.past:
            return "NoBack"
        if word in OF_FOLK and not self.hands:
            return "NoFolk"
        return None

    def say(self, row):
        """("told", text), or ("refused", name of the refusal, its value)."""
        word, *rest = words = row.split(" ")
        kind = self.refusal(words)
        if kind is not None:
            return ("refused", kind, None)
        if word == "back":
            self.hands = self.past.pop()
            return ("told", "ok")
        if word in ("come", "turn", "weigh", "go"):
            self.past.append(list(self.hands))
            self.do(word, rest)
            return ("told", "ok")
        try:
            return ("told", self.answer(word, rest))
        except FolkError as error:
            return ("refused", type(error).__name__, getattr(error, "hand", None))

    def do(self, word, rest):
        title, *more = rest
        if word == "come":
            self.hands = self.hands + [(title, ranking_by_words(more[0]), 1)]
            return
        behind = []
        for other, ranking, weight in self.hands:
            if other != title:
                behind.append((other, ranking, weight))
            elif word == "turn":
                behind.append((other, ranking_by_words(more[0]), weight))
            elif word == "weigh":
                behind.append((other, ranking, int(more[0])))
        self.hands = behind

    def answer(self, word, rest):
        ranking_of = {title: ranking for title, ranking, _ in self.hands}
        weight_of = {title: weight for title, _, weight in self.hands}
        if word == "hands":
            return " ".join(self.titles())
        if word == "show":
            return ranking_text(ranking_of[rest[0]]) + " " + str(weight_of[rest[0]])
        if word == "unlike":
            return str(unlike(ranking_of[rest[0]], ranking_of[rest[1]]))
        if word == "nearest":
            return str(nearest(ranking_by_words(rest[1]), ranking_of[rest[0]])[0])
        if word == "falls":
            line = ranking_by_words(rest[0])
            return " ".join(title for title in self.titles() if falls(line, ranking_of[title]))
        return self.answer_of_folk(word, rest)

    def answer_of_folk(self, word, rest):
        folk = [list(ranking) for _, ranking, _ in self.hands]
        weights = [weight for _, _, weight in self.hands]
        papers = {"line": built, "row": row_built, "tree": tree_told}
        if word in papers:
            return paper_text(papers[word](folk))
        if word == "order":
            return paper_text(order_of(folk, weights))
        if word in ("lines", "trees"):
            return str(len(all_lines(folk)) if word == "lines" else trees_many(folk))
        if word == "unbeaten":
            return " ".join(map(str, unbeaten(folk, weights)))
        if word == "ahead":
            return str(margin(folk, weights, int(rest[0]), int(rest[1])))
        if word == "cost":
            return str(cost(folk, weights, [int(name) for name in rest]))
        line = ranking_by_words(rest[0])
        if word == "middle":
            return "{} {}".format(*middle(folk, weights, line))
        price, names, _ = few(folk, weights, line, int(rest[1]))
        return " ".join(map(str, [price, *names]))
