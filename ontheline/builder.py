"""Lines built, or what bars any: point 12 of the document."""

from itertools import combinations

from ontheline.lines import all_lines
from ontheline.rankings import check_folk, last_of


def built(folk):
    """A paper of lines that is let by: a line on which all rankings of a folk fall, or a bar."""
    check_folk(folk)
    lines = all_lines(folk)
    if lines:
        return ("line", lines[0])
    bar = bar_of_three(folk)
    # Where no line is there, and no bar of three, there is one of four (Ballester and
    # Haeringer, A characterization of the single-peaked domain).
    if bar is None:
        bar = bar_of_four(folk)
    return bar


def bar_of_three(folk):
    """A bar of three hands and three names, or None."""
    for names in combinations(folk[0], 3):
        hands = {}
        for hand, ranking in enumerate(folk):
            hands.setdefault(last_of(ranking, names), hand)
        if len(hands) == 3:
            return ("three", [hands[name] for name in names], list(names))
    return None


def bar_of_four(folk):
    """A bar of two hands and four names, or None."""
    for one, other in combinations(range(len(folk)), 2):
        for name in folk[0]:
            names = names_around(folk[one], folk[other], name)
            if names is not None:
                return ("four", [one, other], names)
    return None


def names_around(first, second, name):
    """The names of a bar of four for two rankings, the second of them told, or None."""
    above_first = first[:first.index(name)]
    above_second = second[:second.index(name)]
    # No two of these lists share a name, so that the four are unlike.
    in_first = [one for one in above_first if one not in above_second]
    in_second = [one for one in above_second if one not in above_first]
    in_both = [one for one in above_first if one in above_second]
    if in_first and in_second and in_both:
        return [in_first[0], name, in_second[0], in_both[0]]
    return None
