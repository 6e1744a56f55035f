"""How far a ranking is from those that fall on a line: points 25 and 26 of the document."""

from ontheline.lines import check_line_and_ranking, is_falling
from ontheline.papers import are_unlike_ones
from ontheline.rankings import count_unlike, is_ahead, is_whole


def count_behind(ranking, name, some):
    """How many of some names a ranking has behind a name."""
    return len([other for other in some if is_ahead(ranking, name, other)])


def most_without_first(line, ranking, table, i, j):
    """The most that a stretch's number may be by that of the stretch without its first name."""
    return table[i + 1][j - i - 1] + count_behind(ranking, line[i], line[i + 1:j + 1])


def most_without_last(line, ranking, table, i, j):
    """The most that a stretch's number may be by that of the stretch without its last name."""
    return table[i][j - i - 1] + count_behind(ranking, line[j], line[i:j])


def most_there(line, ranking, table, i, j):
    """The most that the number of the stretch from place i to j may be, by the lesser stretches."""
    if i == j:
        return 0
    first = most_without_first(line, ranking, table, i, j)
    last = most_without_last(line, ranking, table, i, j)
    return min(first, last)


def nearest(line, ranking):
    """How far a ranking is from a line, a nearest one that falls on it, and a table that bars lesser numbers."""
    check_line_and_ranking(line, ranking)
    table = [[] for _ in line]
    # A stretch's number hangs on those of stretches that begin later, or end earlier.
    for i in reversed(range(len(line))):
        for j in range(i, len(line)):
            table[i].append(most_there(line, ranking, table, i, j))
    return (table[0][-1], ranking_back(line, ranking, table), table)


def ranking_back(line, ranking, table):
    """The ranking that falls on a line by which the number of the whole line in a table came."""
    i = 0
    j = len(line) - 1
    backwards = []
    while i < j:
        if most_without_first(line, ranking, table, i, j) == table[i][j - i]:
            backwards.append(line[i])
            i += 1
        else:
            backwards.append(line[j])
            j -= 1
    backwards.append(line[i])
    return backwards[::-1]


def nearest_judged(line, ranking, thing):
    """None where a nearest ranking and its table are let by, else the first thing that is not so."""
    check_line_and_ranking(line, ranking)
    if not isinstance(thing, tuple) or len(thing) != 3 or not is_whole(thing[0]):
        return ("nearest",)
    number, other, table = thing
    if not are_unlike_ones(other, len(line), line) or not is_falling(line, other):
        return ("falls",)
    if count_unlike(ranking, other) != number:
        return ("pairs",)
    if not is_table(table, len(line)):
        return ("table",)
    return table_judged(line, ranking, number, table)


def is_table(thing, places):
    """Whether anything has the form of a table for the stretches of a line of so many places."""
    if not isinstance(thing, list) or len(thing) != places:
        return False
    return all(is_row_of_table(row, places - i) for i, row in enumerate(thing))


def is_row_of_table(thing, many):
    """Whether anything is a list of so many whole numbers."""
    return isinstance(thing, list) and len(thing) == many and all(is_whole(one) for one in thing)


def table_judged(line, ranking, number, table):
    """What is not so of the numbers of a table by which no ranking is said to be nearer, or None."""
    for i, row in enumerate(table):
        for j in range(i, len(line)):
            if row[j - i] > most_there(line, ranking, table, i, j):
                return ("number", i, j)
    return None if table[0][-1] >= number else ("less",)
