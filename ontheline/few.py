"""Few names for all: points 22 to 24 of the document."""

from ontheline.errors import NoNames, NoNumber
from ontheline.lines import check_line_of
from ontheline.more import check_weights
from ontheline.papers import are_some_names, are_unlike_ones
from ontheline.rankings import is_whole


def cost(folk, weights, names):
    """What some names cost a folk: the places of the best of them, with the hands' weights."""
    check_weights(folk, weights)
    if not are_some_names(names, 1, folk):
        raise NoNames("these are no unlike names of the folk")
    return count_cost(folk, weights, names)


def count_cost(folk, weights, names):
    """What some names of a folk cost it."""
    total = 0
    for ranking, weight in zip(folk, weights):
        total += weight * min(ranking.index(name) for name in names)
    return total


def count_gain(folk, weights, one, other):
    """The gain from the one name to the other one, which comes later along the line."""
    total = 0
    for ranking, weight in zip(folk, weights):
        total += weight * max(0, ranking.index(one) - ranking.index(other))
    return total


def costs_along(folk, weights, line):
    """What each name along a line costs alone."""
    return [count_cost(folk, weights, [name]) for name in line]


def gains_along(folk, weights, line):
    """For each place of a line the gains to the name there, from each name that comes earlier."""
    return [[count_gain(folk, weights, one, line[i]) for one in line[:i]] for i in range(len(line))]


def check_asked(folk, weights, line, many):
    """Refuse what is asked of no folk, weights, line and number of names."""
    check_weights(folk, weights)
    check_line_of(folk, line)
    if not is_whole(many) or not 1 <= many <= len(line):
        raise NoNumber("there aren't so many names")


def most_there(costs, gains, table, j, i):
    """The most that the number in the list j of a table at place i may be, by the list ahead."""
    if j == 0:
        return costs[i]
    return min(table[j - 1][h] - gains[i][h] for h in range(j - 1, i))


def few(folk, weights, line, many):
    """So many names that cost the least, their price, and a table by which no others cost less."""
    check_asked(folk, weights, line, many)
    costs = costs_along(folk, weights, line)
    gains = gains_along(folk, weights, line)
    table = []
    for j in range(many):
        numbers = [most_there(costs, gains, table, j, i) for i in range(j, len(line))]
        table.append([None] * j + numbers)
    price = min(table[-1][many - 1:])
    places = places_back(gains, table, table[-1].index(price))
    return (price, [line[i] for i in places], table)


def places_back(gains, table, last):
    """The places of the names by which the number of a table's last list at the last place came."""
    places = [last]
    for j in range(len(table) - 1, 0, -1):
        i = places[-1]
        ahead = [h for h in range(j - 1, i) if table[j - 1][h] - gains[i][h] == table[j][i]]
        places.append(ahead[0])
    return places[::-1]


def few_judged(folk, weights, line, many, thing):
    """None where few names and their table are let by, else the first thing that is not so."""
    check_asked(folk, weights, line, many)
    if not isinstance(thing, tuple) or len(thing) != 3 or not is_whole(thing[0]):
        return ("few",)
    price, names, table = thing
    if not are_unlike_ones(names, many, line) or names != [name for name in line if name in names]:
        return ("names",)
    if count_cost(folk, weights, names) != price:
        return ("price",)
    if not is_table(table, many, len(line)):
        return ("table",)
    return table_judged(folk, weights, line, price, table)


def is_table(thing, many, places):
    """Whether anything has the form of a table for so many names on a line of so many places."""
    if not isinstance(thing, list) or len(thing) != many:
        return False
    return all(is_row_of_table(row, j, places) for j, row in enumerate(thing))


def is_row_of_table(thing, j, places):
    """Whether anything is a list with None at its first j places and a whole number at all others."""
    if not isinstance(thing, list) or len(thing) != places:
        return False
    return all(one is None for one in thing[:j]) and all(is_whole(one) for one in thing[j:])


def table_judged(folk, weights, line, price, table):
    """What is not so of the numbers of a table by which no names are said to cost less, or None."""
    costs = costs_along(folk, weights, line)
    gains = gains_along(folk, weights, line)
    for j, row in enumerate(table):
        for i in range(j, len(line)):
            if row[i] > most_there(costs, gains, table, j, i):
                return ("number", j, i)
    for i in range(len(table) - 1, len(line)):
        if table[-1][i] < price:
            return ("least", i)
    return None
