"""Lines, and the rankings that fall on them: points 7 to 9 of the document."""

from itertools import combinations

from ontheline.errors import NoFall, NoFit, NoLine, NoNumber
from ontheline.rankings import (
    check_folk, check_ranking, check_same_names, is_ranking, is_whole, places_of)


def check_line(thing):
    """Refuse what is no line."""
    # A line has the form of a ranking: it is all of its names, each once.
    if not is_ranking(thing):
        raise NoLine("this is no line")


def check_line_and_ranking(line, ranking):
    """Refuse what are no line and no ranking of its names."""
    check_line(line)
    check_ranking(ranking)
    check_same_names(line, ranking)


def is_falling(line, ranking):
    """Whether a ranking falls on a line of the same names."""
    places = places_of(line)
    low = high = places[ranking[0]]
    for name in ranking[1:]:
        place = places[name]
        if place == low - 1:
            low = place
        elif place == high + 1:
            high = place
        else:
            return False
    return True


def first_not_falling(line, folk):
    """The first hand of a folk whose ranking doesn't fall on a line of its names, or None."""
    for hand, ranking in enumerate(folk):
        if not is_falling(line, ranking):
            return hand
    return None


def check_line_of(folk, line):
    """Refuse what is no line of a folk's names on which all its rankings fall."""
    check_line(line)
    check_same_names(line, folk[0])
    hand = first_not_falling(line, folk)
    if hand is not None:
        raise NoFall(hand)


def falls(line, ranking):
    """Whether a ranking falls on a line."""
    check_line_and_ranking(line, ranking)
    return is_falling(line, ranking)


def valley(line, ranking):
    """None, or the first three names along a line of which the middle one is last in a ranking."""
    check_line_and_ranking(line, ranking)
    places = places_of(ranking)
    for a, b, c in combinations(line, 3):
        if places[a] < places[b] and places[c] < places[b]:
            return (a, b, c)
    return None


def number_on(line, ranking):
    """The number, among the rankings that fall on a line, of one of them."""
    check_line_and_ranking(line, ranking)
    if not is_falling(line, ranking):
        raise NoFit("the ranking doesn't fall on the line")
    number = 0
    low = 0
    # From the last name on each one is an end of what is left of the line: which end
    # it is, is a figure of the number in twos. The top, left alone, has no choice.
    for name in reversed(ranking[1:]):
        number = number * 2
        if name == line[low]:
            low += 1
        else:
            number += 1
    return number


def ranking_on(line, number):
    """The ranking that has a number among those that fall on a line."""
    check_line(line)
    if not is_whole(number) or not 0 <= number < 1 << (len(line) - 1):
        raise NoNumber("no ranking that falls on the line has this number")
    low = 0
    high = len(line) - 1
    backwards = []
    while low < high:
        if number >> (high - low - 1) & 1:
            backwards.append(line[high])
            high -= 1
        else:
            backwards.append(line[low])
            low += 1
    backwards.append(line[low])
    return backwards[::-1]


def lines_of(ranking):
    """All lines on which a ranking falls, in the order of lists."""
    check_ranking(ranking)
    stretches = [ranking[:1]]
    for name in ranking[1:]:
        at_front = [[name] + stretch for stretch in stretches]
        at_back = [stretch + [name] for stretch in stretches]
        stretches = at_front + at_back
    return sorted(stretches)


def all_lines(folk):
    """All lines on which all rankings of a folk fall, in the order of lists."""
    check_folk(folk)
    lines = lines_of(folk[0])
    for ranking in folk[1:]:
        lines = [line for line in lines if is_falling(line, ranking)]
    return lines
