"""Rankings in a row, or what bars any row: points 13 to 15 of the document."""

from itertools import combinations

from ontheline.papers import are_hands, are_names, is_paper
from ontheline.rankings import check_folk, count_unlike, is_ahead

WORDS = (("row", 2), ("apart", 3), ("cross", 3))
# For each pair of a bar, and each hand, whether the hand has the first name ahead.
APART = ((True, False, False), (False, True, False), (False, False, True))
CROSS = ((True, True, False, False), (True, False, True, False))
# What the four hands of a cross have of both pairs, hand by hand.
CORNERS = ((True, True), (True, False), (False, True), (False, False))


def row_judged(folk, paper):
    """None where a paper of rows is let by, else the first thing that is not so."""
    check_folk(folk)
    if not is_paper(paper, WORDS):
        return ("paper",)
    if paper[0] == "row":
        return whole_row_judged(folk, paper[1])
    if paper[0] == "apart":
        return bar_judged(folk, paper, APART)
    return bar_judged(folk, paper, CROSS)


def whole_row_judged(folk, row):
    """What is not so of a row of a folk, or None."""
    if not are_hands(row, len(folk), folk):
        return ("row",)
    names = first_twice(folk, row)
    if names is not None:
        return ("twice", names[0], names[1])
    return None


def first_twice(folk, row):
    """The first two names, in the order of tuples, that change sides more than once, or None."""
    names = sorted(folk[0])
    for a, b in combinations(names, 2):
        sides = [is_ahead(folk[hand], a, b) for hand in row]
        changes = [1 for side, later in zip(sides, sides[1:]) if side != later]
        if len(changes) > 1:
            return (a, b)
    return None


def bar_judged(folk, paper, sides):
    """What is not so of a bar whose hands are said to have these sides of its pairs, or None."""
    word, hands, pairs = paper
    if not are_hands(hands, len(sides[0]), folk) or not are_pairs(pairs, len(sides), folk):
        return (word,)
    # All sayings side by side, as their numbers run through all pairs.
    said = [side for row in sides for side in row]
    found = [is_ahead(folk[hand], a, b) for a, b in pairs for hand in hands]
    for k, side in enumerate(said):
        if side != found[k]:
            return ("side", k)
    return None


def are_pairs(thing, many, folk):
    """Whether anything is a list of so many lists of two unlike names of a folk."""
    if not isinstance(thing, list) or len(thing) != many:
        return False
    return all(are_names(pair, 2, folk) for pair in thing)


def row_built(folk):
    """A paper of rows that is let by: a row of a folk, or a bar."""
    check_folk(folk)
    row = only_row(folk)
    if first_twice(folk, row) is None:
        return ("row", row)
    bar = bar_apart(folk)
    # Where no row is there, and no three hands are apart, there is a cross (Bredereck,
    # Chen and Woeginger, A characterization of the single-crossing domain).
    if bar is None:
        bar = bar_cross(folk)
    return bar


def only_row(folk):
    """The hands in the order which is a row where any is."""
    # From any hand of a row on, to either side, rankings are ever more unlike its own, or
    # the same again: so the one most unlike the first hand's stands at an end, and from
    # there on the counts tell the order.
    counts = [count_unlike(folk[0], ranking) for ranking in folk]
    end = folk[counts.index(max(counts))]
    counted = [(count_unlike(end, ranking), hand) for hand, ranking in enumerate(folk)]
    return [hand for _, hand in sorted(counted)]


def bar_apart(folk):
    """A bar of three hands and three pairs, or None."""
    counts = [[count_unlike(one, other) for other in folk] for one in folk]
    for hands in combinations(range(len(folk)), 3):
        if are_apart(counts, hands):
            pairs = [pair_alone(folk, hands, place) for place in range(3)]
            return ("apart", list(hands), pairs)
    return None


def are_apart(counts, hands):
    """Whether the ranking of none of three hands lies between those of the two others."""
    one, two, three = hands
    sides = [counts[one][two], counts[two][three], counts[three][one]]
    # A ranking lies between two others where two of the counts come to just the third.
    return sum(sides) > 2 * max(sides)


def pair_alone(folk, hands, place):
    """Two names, the first one ahead for the hand at a place alone."""
    others = [folk[hand] for hand in hands if hand != hands[place]]
    for a, b in combinations(folk[hands[place]], 2):
        if not any(is_ahead(ranking, a, b) for ranking in others):
            return [a, b]
    return None


def bar_cross(folk):
    """A bar of four hands and two pairs, or None."""
    pairs = list(combinations(folk[0], 2))
    sides = {(a, b): [is_ahead(ranking, a, b) for ranking in folk] for a, b in pairs}
    for one, other in combinations(pairs, 2):
        corners = list(zip(sides[one], sides[other]))
        if len(set(corners)) == len(CORNERS):
            hands = [corners.index(corner) for corner in CORNERS]
            return ("cross", hands, [list(one), list(other)])
    return None
