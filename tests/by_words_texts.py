"""What points 32 and 33 tell of texts, by their words, asked plainly and one thing after the other."""

import re

NUMBER = "(0|[1-9][0-9]{0,29})"
LONE = ("line", "row", "order", "ring", "gone")
# What stands behind the first word: a number, a "/", or a tie.
FORMS = {"three": "nnn/nnn", "four": "nn/nnnn", "apart": "nnn/nn/nn/nn", "cross": "nnnn/nn/nn"}
LISTS = {"three": [3, 3], "four": [2, 4]}
PAIRS = {"apart": [3, 3], "cross": [4, 2]}


def ranking_by_words(text):
    """The ranking of a text, or None."""
    if not re.fullmatch(NUMBER + "(>" + NUMBER + ")*", text):
        return None
    names = [int(word) for word in text.split(">")]
    return names if len(names) <= 10 and len(set(names)) == len(names) else None


def folk_by_words(text):
    """The folk of a text, or the number of the first row that can't stand there."""
    if text == "":
        return 0
    folk, at = [], 0
    while text:
        row, end, text = text.partition("\n")
        ranking = ranking_by_words(row)
        if ranking is None or end == "" or at == 20 or set(ranking) != set((folk + [ranking])[0]):
            return at
        folk.append(ranking)
        at += 1
    return folk


def stands(kind, word):
    """Whether a word is of a kind."""
    return bool(re.fullmatch({"n": NUMBER, "/": "/", "t": NUMBER + "-" + NUMBER}[kind], word))


def paper_by_words(text):
    """The paper of a text, or the number of the first word that can't stand there or is wanting."""
    word, *rest = text.split(" ")
    if word in FORMS:
        kinds = FORMS[word]
    elif word in LONE:
        kinds = "n" * max(1, len(rest))
    elif word == "tree":
        kinds = "t" * len(rest)
    else:
        return 0
    for at, (kind, other) in enumerate(zip(kinds, rest)):
        if not stands(kind, other):
            return at + 1
    if len(rest) != len(kinds):
        return min(len(rest), len(kinds)) + 1
    if word == "tree":
        return ("tree", [tuple(int(part) for part in tie.split("-")) for tie in rest])
    lists = [[int(number) for number in part.split()] for part in " ".join(rest).split("/")]
    if word in LONE or word in LISTS:
        return (word, *lists)
    return (word, lists[0], lists[1:])


def are_numbers_by_words(thing, counts=None):
    if type(thing) is not list or any(type(number) is not int or number < 0 for number in thing):
        return False
    return len(thing) in counts if counts else bool(thing)


def is_paper_to_write(thing):
    """Whether anything has the form of a paper that can be written."""
    if type(thing) is not tuple or not thing or type(thing[0]) is not str:
        return False
    word, *rest = thing
    if word in LONE:
        return len(rest) == 1 and are_numbers_by_words(rest[0])
    if word == "tree":
        return len(rest) == 1 and type(rest[0]) is list and all(
            type(tie) is tuple and are_numbers_by_words(list(tie), [2]) for tie in rest[0])
    if len(rest) != 2:
        return False
    if word in LISTS:
        return all(are_numbers_by_words(part, [count]) for part, count in zip(rest, LISTS[word]))
    if word not in PAIRS or not are_numbers_by_words(rest[0], [PAIRS[word][0]]):
        return False
    return type(rest[1]) is list and len(rest[1]) == PAIRS[word][1] and all(
        are_numbers_by_words(pair, [2]) for pair in rest[1])
