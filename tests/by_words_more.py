"""What points 16 to 24 tell, by their words, asked plainly and one thing after the other."""

from itertools import permutations, product

from by_words import are_by_words, has_ahead, is_paper_by_words
from samples import falls_by_words


def margin_by_words(folk, weights, one, other):
    """What the hands weigh that rank the one ahead of the other, less what the others weigh."""
    weight_of_one = weight_of_other = 0
    for hand in range(len(folk)):
        if has_ahead(folk[hand], one, other):
            weight_of_one += weights[hand]
        else:
            weight_of_other += weights[hand]
    return weight_of_one - weight_of_other


def order_judged_by_words(folk, weights, paper):
    """What the judge of order papers tells of a folk, weights and anything."""
    names_there = sorted(folk[0])
    if not is_paper_by_words(paper, {"order": 2, "ring": 2}):
        return ("paper",)
    word, names = paper
    if word == "order":
        if not are_by_words(names, len(names_there), names_there):
            return ("order",)
        for place, one in enumerate(names):
            for other in names[place + 1:]:
                if margin_by_words(folk, weights, other, one) > 0:
                    return ("ahead", one, other)
        return None
    if type(names) is not list or len(names) < 3 or not are_by_words(names, len(names), names_there):
        return ("ring",)
    for k in range(len(names)):
        if margin_by_words(folk, weights, names[k], names[(k + 1) % len(names)]) <= 0:
            return ("beats", k)
    return None


def orders_by_words(folk, weights):
    """All orders of which no later name beats an earlier one, all orders of the names gone through."""
    return [list(order) for order in permutations(sorted(folk[0]))
            if order_judged_by_words(folk, weights, ("order", list(order))) is None]


def unbeaten_by_words(folk, weights):
    """The names that no other one beats, rising."""
    names = sorted(folk[0])
    return [name for name in names
            if all(margin_by_words(folk, weights, other, name) <= 0 for other in names if other != name)]


def middle_by_words(folk, weights, line):
    """The first name that the tops come up to with half the weight, and the last from which on they do."""
    lows, highs = [], []
    for place, name in enumerate(line):
        up_to = [weight for ranking, weight in zip(folk, weights) if ranking[0] in line[:place + 1]]
        from_on = [weight for ranking, weight in zip(folk, weights) if ranking[0] in line[place:]]
        if 2 * sum(up_to) >= sum(weights):
            lows.append(name)
        if 2 * sum(from_on) >= sum(weights):
            highs.append(name)
    return (lows[0], highs[-1])


def middle_of_by_words(line, names):
    """The name that has as many of an odd number of names ahead of it in their row as behind it."""
    row = [name for name in line for _ in range(names.count(name))]
    return row[(len(row) - 1) // 2]


def tellings_by_words(line, many):
    return sorted(product(line, repeat=many))


def rule_by_words(line, many, fixed):
    return [middle_of_by_words(line, [*telling, *fixed]) for telling in tellings_by_words(line, many)]


def is_telling_by_words(line, many, thing):
    return type(thing) is tuple and len(thing) == many and all(type(name) is int and name in line for name in thing)


def is_hand_by_words(many, thing):
    return type(thing) is int and thing in range(many)


def rule_judged_by_words(line, many, rule, paper):
    """What the judge of papers for rules tells of a rule and anything."""
    if not is_paper_by_words(paper, {"fixed": 2, "gains": 5, "unlike": 4}):
        return ("paper",)
    chosen = dict(zip(tellings_by_words(line, many), rule))
    if paper[0] == "fixed":
        return fixed_judged_by_words(line, many, chosen, paper[1])
    telling = paper[1]
    if paper[0] == "gains":
        _, _, hand, name, ranking = paper
        if not is_telling_by_words(line, many, telling) or not is_hand_by_words(many, hand):
            return ("gains",)
        if type(name) is not int or name not in line or not are_by_words(ranking, len(line), line):
            return ("gains",)
        if not falls_by_words(line, ranking) or ranking[0] != telling[hand]:
            return ("gains",)
        instead = tuple(name if place == hand else one for place, one in enumerate(telling))
        if chosen[instead] in ranking[:ranking.index(chosen[telling])]:
            return None
        return ("gain",)
    _, _, one, other = paper
    if not is_telling_by_words(line, many, telling):
        return ("unlike",)
    if not is_hand_by_words(many, one) or not is_hand_by_words(many, other) or one >= other:
        return ("unlike",)
    exchanged = list(telling)
    exchanged[one], exchanged[other] = telling[other], telling[one]
    return None if chosen[tuple(exchanged)] != chosen[telling] else ("exchange",)


def fixed_judged_by_words(line, many, chosen, names):
    if type(names) is not list or len(names) != many + 1:
        return ("fixed",)
    if not all(type(name) is int and name in line for name in names):
        return ("fixed",)
    if any(line.index(later) < line.index(name) for name, later in zip(names, names[1:])):
        return ("fixed",)
    for telling in tellings_by_words(line, many):
        if chosen[telling] != middle_of_by_words(line, [*telling, *names]):
            return ("telling", telling)
    return None


def cost_by_words(folk, weights, names):
    """The places at which the rankings have the first of some names, times by the weights."""
    return sum(weight * [name in names for name in ranking].index(True) for ranking, weight in zip(folk, weights))


def gain_by_words(folk, weights, one, later):
    """What the later name along the line brings over the one: the places by which it stands ahead."""
    places = [max(ranking.index(one) - ranking.index(later), 0) for ranking in folk]
    return sum(weight * many for weight, many in zip(weights, places))


def few_judged_by_words(folk, weights, line, many, thing):
    """What the judge of few names tells of a folk, weights, a line, a number and anything."""
    if type(thing) is not tuple or len(thing) != 3 or type(thing[0]) is not int:
        return ("few",)
    price, names, table = thing
    if not are_by_words(names, many, line):
        return ("names",)
    if any(line.index(later) < line.index(name) for name, later in zip(names, names[1:])):
        return ("names",)
    if cost_by_words(folk, weights, names) != price:
        return ("price",)
    if type(table) is not list or len(table) != many:
        return ("table",)
    for j, row in enumerate(table):
        if type(row) is not list or len(row) != len(line):
            return ("table",)
        if any(type(number) is not (type(None) if i < j else int) for i, number in enumerate(row)):
            return ("table",)
    for j, row in enumerate(table):
        for i in range(j, len(line)):
            if j == 0:
                bounds = [cost_by_words(folk, weights, [line[i]])]
            else:
                bounds = [table[j - 1][h] - gain_by_words(folk, weights, line[h], line[i]) for h in range(j - 1, i)]
            if any(row[i] > bound for bound in bounds):
                return ("number", j, i)
    below = [i for i in range(many - 1, len(line)) if table[-1][i] < price]
    return ("least", below[0]) if below else None
