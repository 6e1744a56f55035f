"""The judge of papers of lines: points 10 and 11 of the document."""

from ontheline.lines import first_not_falling
from ontheline.papers import are_hands, are_names, is_paper
from ontheline.rankings import check_folk, is_ahead, last_of

WORDS = (("line", 2), ("three", 3), ("four", 3))


def judged(folk, paper):
    """None where a paper of lines is let by, else the first thing that is not so."""
    check_folk(folk)
    if not is_paper(paper, WORDS):
        return ("paper",)
    if paper[0] == "line":
        return line_judged(folk, paper[1])
    if paper[0] == "three":
        return three_judged(folk, paper[1], paper[2])
    return four_judged(folk, paper[1], paper[2])


def line_judged(folk, line):
    """What is not so of a line on which all rankings are said to fall, or None."""
    if not are_names(line, len(folk[0]), folk):
        return ("line",)
    hand = first_not_falling(line, folk)
    return None if hand is None else ("falls", hand)


def three_judged(folk, hands, names):
    """What is not so of a bar of three hands and three names, or None."""
    if not are_hands(hands, 3, folk) or not are_names(names, 3, folk):
        return ("three",)
    for k, hand in enumerate(hands):
        if last_of(folk[hand], names) != names[k]:
            return ("last", k)
    return None


def four_judged(folk, hands, names):
    """What is not so of a bar of two hands and four names, or None."""
    if not are_hands(hands, 2, folk) or not are_names(names, 4, folk):
        return ("four",)
    first = folk[hands[0]]
    second = folk[hands[1]]
    a, b, c, d = names
    sayings = (
        (first, a, b), (first, b, c), (second, c, b), (second, b, a), (first, d, b), (second, d, b))
    for k, (ranking, one, other) in enumerate(sayings):
        if not is_ahead(ranking, one, other):
            return ("ahead", k)
    return None
