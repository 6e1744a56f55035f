"""A desk that is told rows and answers each with a text: points 34 and 35 of the document."""

from ontheline.builder import built
from ontheline.errors import (
    NoBack, NoFolk, NoLine, NoNumber, NoRanking, NoRow, NoTitle, TooGreat)
from ontheline.few import cost, few
from ontheline.lines import all_lines, is_falling
from ontheline.more import margin, middle, order_of, unbeaten
from ontheline.nearest import nearest
from ontheline.rankings import MOST_HANDS, check_rising, have_same_names, unlike
from ontheline.rows import row_built
from ontheline.texts import number_in, paper_text, ranking_in, ranking_text
from ontheline.trees import tree_told, trees_many

LETTERS = "abcdefghijklmnopqrstuvwxyz"
MOST_LETTERS = 8

# What the words behind the first one have to be; behind "cost" stands one number or more.
KINDS = {
    "come": ("new title", "ranking"), "turn": ("title", "ranking"), "weigh": ("title", "weight"), "go": ("title",),
    "back": (),
    "hands": (), "show": ("title",), "falls": ("line",), "unlike": ("title", "title"), "nearest": ("title", "line"),
    "line": (), "row": (), "tree": (), "order": (), "lines": (), "trees": (), "unbeaten": (),
    "ahead": ("number", "number"), "middle": ("line",), "few": ("line", "number"),
}
DEEDS = ("come", "turn", "weigh", "go")
ASKED_OF_HANDS = ("hands", "show", "falls", "unlike", "nearest")


class Desk:
    """Hands that come by titles, each with a ranking of the desk's names and a weight."""

    def __init__(self, names):
        check_rising(names)
        self._names = list(names)
        # A hand is a tuple of title, ranking and weight. No list of hands is ever changed,
        # so that those from ahead of each deed can be kept as they are.
        self._hands = []
        self._past = []

    def say(self, row):
        """Do what a row tells, or answer what it asks."""
        words = row.split(" ")
        things = read_row(self._names, self._hands, words)
        if words[0] == "back":
            return self._take_back()
        if words[0] in DEEDS:
            return self._do(words[0], things)
        if words[0] in ASKED_OF_HANDS:
            return told_of_hands(self._hands, words[0], things)
        return told_of_folk(self._hands, words[0], things)

    def _do(self, word, things):
        hands = hands_behind(self._hands, word, things)
        self._past.append(self._hands)
        self._hands = hands
        return "ok"

    def _take_back(self):
        if not self._past:
            raise NoBack("there is no deed to be taken back")
        self._hands = self._past.pop()
        return "ok"


def read_row(names, hands, words):
    """What the words of a row behind the first one tell, hands by their places."""
    return [read_word(names, hands, kind, word) for kind, word in zip(kinds_of(words), words[1:])]


def kinds_of(words):
    """What the words of a row behind the first one have to be."""
    many = len(words) - 1
    if words[0] == "cost" and many >= 1:
        return ("number",) * many
    if words[0] not in KINDS or len(KINDS[words[0]]) != many:
        raise NoRow("this is no row that the desk knows")
    return KINDS[words[0]]


def read_word(names, hands, kind, word):
    """What a word tells that has to be of a kind."""
    if kind == "new title":
        return read_new_title(hands, word)
    if kind == "title":
        return read_title(hands, word)
    if kind == "ranking":
        return read_ranking_of(names, word)
    if kind == "line":
        return read_line_of(names, word)
    return read_number(word, 1 if kind == "weight" else 0)


def read_new_title(hands, word):
    """A title by which no hand is there."""
    if not 1 <= len(word) <= MOST_LETTERS or not all(sign in LETTERS for sign in word):
        raise NoTitle("this is no title")
    if word in titles_of(hands):
        raise NoTitle("a hand is there by this title")
    return word


def read_title(hands, word):
    """The place of the hand that is there by a title."""
    titles = titles_of(hands)
    if word not in titles:
        raise NoTitle("no hand is there by this title")
    return titles.index(word)


def names_in(names, word):
    """The ranking of the desk's names that a word writes, or None; a line is written likewise."""
    told = ranking_in(word)
    if told is None or not have_same_names(told, names):
        return None
    return told


def read_ranking_of(names, word):
    """A ranking of the desk's names."""
    ranking = names_in(names, word)
    if ranking is None:
        raise NoRanking("this writes no ranking of the desk's names")
    return ranking


def read_line_of(names, word):
    """A line of the desk's names."""
    line = names_in(names, word)
    if line is None:
        raise NoLine("this writes no line of the desk's names")
    return line


def read_number(word, least):
    """A number, from the least one on."""
    number = number_in(word)
    if number is None or number < least:
        raise NoNumber("this writes no number that can stand here")
    return number


def titles_of(hands):
    """The titles of hands."""
    return [hand[0] for hand in hands]


def rankings_of(hands):
    """The rankings of hands."""
    return [hand[1] for hand in hands]


def weights_of(hands):
    """The weights of hands."""
    return [hand[2] for hand in hands]


def hands_behind(hands, word, things):
    """All hands as they are behind a deed."""
    if word == "come":
        if len(hands) == MOST_HANDS:
            raise TooGreat("all the hands are there that can be")
        return hands + [(things[0], things[1], 1)]
    place = things[0]
    if word == "go":
        return hands[:place] + hands[place + 1:]
    title, ranking, weight = hands[place]
    if word == "turn":
        changed = (title, things[1], weight)
    else:
        changed = (title, ranking, things[1])
    return hands[:place] + [changed] + hands[place + 1:]


def told_of_hands(hands, word, things):
    """The answer to what is asked of single hands, or of all that may be there."""
    if word == "hands":
        return " ".join(titles_of(hands))
    if word == "falls":
        return " ".join(hand[0] for hand in hands if is_falling(things[0], hand[1]))
    _, ranking, weight = hands[things[0]]
    if word == "show":
        return f"{ranking_text(ranking)} {weight}"
    if word == "unlike":
        return str(unlike(ranking, rankings_of(hands)[things[1]]))
    return str(nearest(things[1], ranking)[0])


def told_of_folk(hands, word, things):
    """The answer to what is asked of the folk of all hands, with their weights."""
    if not hands:
        raise NoFolk("no hand is there")
    folk = rankings_of(hands)
    if word == "line":
        return paper_text(built(folk))
    if word == "row":
        return paper_text(row_built(folk))
    if word == "tree":
        return paper_text(tree_told(folk))
    if word == "lines":
        return str(len(all_lines(folk)))
    if word == "trees":
        return str(trees_many(folk))
    return told_of_weights(folk, weights_of(hands), word, things)


def told_of_weights(folk, weights, word, things):
    """The answer to what is asked of a folk and its weights."""
    if word == "order":
        return paper_text(order_of(folk, weights))
    if word == "unbeaten":
        return with_blanks(unbeaten(folk, weights))
    if word == "ahead":
        return str(margin(folk, weights, things[0], things[1]))
    if word == "cost":
        return str(cost(folk, weights, things))
    if word == "middle":
        return with_blanks(middle(folk, weights, things[0]))
    price, names, _ = few(folk, weights, things[0], things[1])
    return with_blanks([price] + names)


def with_blanks(numbers):
    """Numbers with a blank between two."""
    return " ".join(str(number) for number in numbers)
