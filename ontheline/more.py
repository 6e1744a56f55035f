"""Who is put ahead by more: points 16 to 18 of the document."""

from itertools import combinations

from ontheline.errors import NoNames, NoWeights
from ontheline.lines import check_line_of
from ontheline.papers import are_names, are_some_names, is_paper
from ontheline.rankings import are_two_names, check_folk, is_ahead, is_whole

WORDS = (("order", 2), ("ring", 2))
# Fewer names than these are never a ring: of two only the one can beat the other one.
LEAST_IN_RING = 3


def are_weights(thing, many):
    """Whether anything is a list of weights for so many hands."""
    if not isinstance(thing, list) or len(thing) != many:
        return False
    return all(is_whole(weight) and weight >= 1 for weight in thing)


def check_weights(folk, weights):
    """Refuse what are no folk and no weights of its hands."""
    check_folk(folk)
    if not are_weights(weights, len(folk)):
        raise NoWeights("these are no weights of the folk's hands")


def count_margin(folk, weights, one, other):
    """What the hands that have the one name ahead weigh, less what the others weigh."""
    return sum(
        weight if is_ahead(ranking, one, other) else -weight
        for ranking, weight in zip(folk, weights))


def margin(folk, weights, one, other):
    """By how much the one name is put ahead of the other one."""
    check_weights(folk, weights)
    if not are_two_names(folk[0], one, other):
        raise NoNames("these are no two unlike names of the folk")
    return count_margin(folk, weights, one, other)


def is_beating(folk, weights, one, other):
    """Whether the one of two names beats the other one."""
    return count_margin(folk, weights, one, other) > 0


def beating(folk, weights, names, name):
    """Those of some names that beat a name."""
    return [one for one in names if one != name and is_beating(folk, weights, one, name)]


def unbeaten_among(folk, weights, names):
    """Those of some names, in their order, that none of these beats."""
    return [name for name in names if not beating(folk, weights, names, name)]


def order_judged(folk, weights, paper):
    """None where an order paper is let by, else the first thing that is not so."""
    check_weights(folk, weights)
    if not is_paper(paper, WORDS):
        return ("paper",)
    if paper[0] == "order":
        return whole_order_judged(folk, weights, paper[1])
    return ring_judged(folk, weights, paper[1])


def whole_order_judged(folk, weights, names):
    """What is not so of an order of all names, or None."""
    if not are_names(names, len(folk[0]), folk):
        return ("order",)
    for one, other in combinations(names, 2):
        if is_beating(folk, weights, other, one):
            return ("ahead", one, other)
    return None


def ring_judged(folk, weights, names):
    """What is not so of a ring, or None."""
    if not are_some_names(names, LEAST_IN_RING, folk):
        return ("ring",)
    for k, (name, following) in enumerate(zip(names, names[1:] + names[:1])):
        if not is_beating(folk, weights, name, following):
            return ("beats", k)
    return None


def order_of(folk, weights):
    """An order paper that is let by: an order of all names, or a ring."""
    check_weights(folk, weights)
    left = sorted(folk[0])
    order = []
    while left:
        free = unbeaten_among(folk, weights, left)
        if not free:
            return ("ring", ring_among(folk, weights, left))
        order.append(free[0])
        left.remove(free[0])
    return ("order", order)


def ring_among(folk, weights, names):
    """A ring of some names, each of which is beaten by another one of them."""
    way = [names[0]]
    while True:
        name = beating(folk, weights, names, way[-1])[0]
        if name in way:
            # Each name of the way beats the one ahead of it: so it is told backwards.
            return way[way.index(name):][::-1]
        way.append(name)


def unbeaten(folk, weights):
    """The names that no other one beats, rising."""
    check_weights(folk, weights)
    return unbeaten_among(folk, weights, sorted(folk[0]))


def middle(folk, weights, line):
    """The first and the last name along a line that stand in the middle of all tops."""
    check_weights(folk, weights)
    check_line_of(folk, line)
    low = first_with_half(folk, weights, line)
    high = first_with_half(folk, weights, line[::-1])
    return (low, high)


def first_with_half(folk, weights, line):
    """The first name along a line such that the tops up to it have at least half the weight."""
    tops = [ranking[0] for ranking in folk]
    place = -1
    come = 0
    while 2 * come < sum(weights):
        place += 1
        come += sum(weight for top, weight in zip(tops, weights) if top == line[place])
    return line[place]
