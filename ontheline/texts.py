"""Rankings, folks and papers as texts: points 32 and 33 of the document."""

from ontheline.errors import NoPaper, NoText
from ontheline.rankings import (
    MOST_HANDS, check_folk, check_ranking, have_same_names, is_name, is_ranking)

FIGURES = "0123456789"
MOST_FIGURES = 30

# The papers that have one list, of whatever length.
LONE = ("line", "row", "order", "ring", "gone")
# How many numbers stand in each of the lists that are written one behind the other.
COUNTS = (("three", (3, 3)), ("four", (2, 4)), ("apart", (3, 2, 2, 2)), ("cross", (4, 2, 2)))
# The papers of which all lists but the first one stand in a list.
PAIRED = ("apart", "cross")
BETWEEN_LISTS = "/"


def number_in(word):
    """The number that a word writes, or None."""
    if not 1 <= len(word) <= MOST_FIGURES or not all(sign in FIGURES for sign in word):
        return None
    if word[0] == "0" and len(word) > 1:
        return None
    return int(word)


def numbers_in(words):
    """The numbers that words write, or None where one of them writes none."""
    numbers = [number_in(word) for word in words]
    return None if None in numbers else numbers


def ranking_in(text):
    """The ranking that a text writes, or None."""
    names = numbers_in(text.split(">"))
    return names if is_ranking(names) else None


def ranking_text(ranking):
    """A ranking as a text."""
    check_ranking(ranking)
    return as_text(ranking)


def as_text(ranking):
    """The names of a ranking, the best first."""
    return ">".join(str(name) for name in ranking)


def read_ranking(text):
    """The ranking of a text."""
    ranking = ranking_in(text)
    if ranking is None:
        raise NoText(0)
    return ranking


def folk_text(folk):
    """A folk as a text, a row for each ranking."""
    check_folk(folk)
    return "".join(as_text(ranking) + "\n" for ranking in folk)


def read_folk(text):
    """The folk of a text."""
    rows = text.split("\n")
    folk = []
    # What stands behind the last line end is no row, and what is left there has none.
    for at, row in enumerate(rows[:-1]):
        ranking = ranking_in(row)
        if at == MOST_HANDS or ranking is None:
            raise NoText(at)
        if folk and not have_same_names(ranking, folk[0]):
            raise NoText(at)
        folk.append(ranking)
    if rows[-1] or not folk:
        raise NoText(len(folk))
    return folk


def are_numbers(thing):
    """Whether anything is a list of whole numbers from 0 on."""
    return isinstance(thing, list) and all(is_name(one) for one in thing)


def are_lists(thing):
    """Whether anything is a list of lists of whole numbers from 0 on."""
    return isinstance(thing, list) and all(are_numbers(one) for one in thing)


def are_ties(thing):
    """Whether anything is a list of tuples of two whole numbers from 0 on."""
    if not isinstance(thing, list) or not all(isinstance(tie, tuple) for tie in thing):
        return False
    return all(len(tie) == 2 and are_numbers(list(tie)) for tie in thing)


def counts_of(word):
    """How many numbers stand in each list of a paper with this word, or None where that isn't told."""
    for known, counts in COUNTS:
        if word == known:
            return counts
    return None


def lists_of(paper):
    """The lists of a paper in which just so many numbers stand, one behind the other, or None."""
    counts = counts_of(paper[0])
    if counts is None or len(paper) != 3:
        return None
    if paper[0] not in PAIRED:
        lists = [paper[1], paper[2]]
    elif are_lists(paper[2]):
        lists = [paper[1]] + paper[2]
    else:
        return None
    if not are_lists(lists) or [len(numbers) for numbers in lists] != list(counts):
        return None
    return lists


def paper_text(paper):
    """A paper of lines, rows, orders or trees as a text."""
    if not isinstance(paper, tuple) or not paper:
        raise NoPaper("this has the form of no paper")
    if paper[0] in LONE and len(paper) == 2 and are_numbers(paper[1]) and paper[1]:
        words = [str(number) for number in paper[1]]
    elif paper[0] == "tree" and len(paper) == 2 and are_ties(paper[1]):
        words = [f"{one}-{other}" for one, other in paper[1]]
    else:
        words = words_of_lists(lists_of(paper))
    return " ".join([paper[0]] + words)


def words_of_lists(lists):
    """The words of a paper's lists, where it has the form of a paper."""
    if lists is None:
        raise NoPaper("this has the form of no paper")
    words = []
    for numbers in lists:
        words.append(BETWEEN_LISTS)
        words.extend([str(number) for number in numbers])
    return words[1:]


def read_paper(text):
    """The paper of a text."""
    words = text.split(" ")
    if words[0] in LONE:
        return (words[0], read_numbers(words))
    if words[0] == "tree":
        return (words[0], read_ties(words))
    counts = counts_of(words[0])
    if counts is None:
        raise NoText(0)
    lists = read_lists(words, counts)
    if words[0] in PAIRED:
        return (words[0], lists[0], lists[1:])
    return (words[0], lists[0], lists[1])


def read_number_at(words, at):
    """The number of the word at a place."""
    number = number_in(words[at]) if at < len(words) else None
    if number is None:
        raise NoText(at)
    return number


def read_numbers(words):
    """The one or more numbers that all words but the first write."""
    most = max(2, len(words))
    return [read_number_at(words, at) for at in range(1, most)]


def read_ties(words):
    """The ties that all words but the first write."""
    ties = []
    for at, word in enumerate(words[1:], start=1):
        tie = numbers_in(word.split("-"))
        if tie is None or len(tie) != 2:
            raise NoText(at)
        ties.append((tie[0], tie[1]))
    return ties


def read_lists(words, counts):
    """The lists of just so many numbers that all words but the first write."""
    lists = []
    at = 1
    for count in counts:
        if lists:
            read_between(words, at)
            at += 1
        lists.append([read_number_at(words, at + k) for k in range(count)])
        at += count
    if at < len(words):
        raise NoText(at)
    return lists


def read_between(words, at):
    """Refuse a word that doesn't stand between two lists."""
    if at >= len(words) or words[at] != BETWEEN_LISTS:
        raise NoText(at)
