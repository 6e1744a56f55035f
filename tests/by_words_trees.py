"""What points 25 to 31 tell, by their words, asked plainly and one thing after the other."""

from functools import lru_cache
from itertools import combinations

from by_words import are_by_words, has_ahead, is_paper_by_words
from samples import falls_by_words


def all_on_line(line):
    """All rankings that fall on a line: the last one is one of both ends of what is left of it."""
    if len(line) == 1:
        return [list(line)]
    return ([ranking + [line[-1]] for ranking in all_on_line(line[:-1])]
            + [ranking + [line[0]] for ranking in all_on_line(line[1:])])


def pairs_by_words(ranking, other):
    """How many pairs of names stand the other way about in another ranking."""
    return len([1 for a, b in combinations(ranking, 2) if has_ahead(other, b, a)])


def nearest_by_words(line, ranking):
    """The least number of pairs that stand the other way about, all rankings that fall gone through."""
    return min(pairs_by_words(ranking, other) for other in all_on_line(line))


def bounds_by_words(line, ranking, table, i, j):
    """What the number of the stretch from place i to j may be at most."""
    if i == j:
        return [0]
    behind_first = [name for name in line[i + 1:j + 1] if has_ahead(ranking, line[i], name)]
    behind_last = [name for name in line[i:j] if has_ahead(ranking, line[j], name)]
    return [table[i + 1][j - (i + 1)] + len(behind_first), table[i][j - 1 - i] + len(behind_last)]


def nearest_judged_by_words(line, ranking, thing):
    """What the judge of nearest rankings tells of a line, a ranking and anything."""
    if type(thing) is not tuple or len(thing) != 3 or type(thing[0]) is not int:
        return ("nearest",)
    number, other, table = thing
    if not are_by_words(other, len(line), line) or not falls_by_words(line, other):
        return ("falls",)
    if pairs_by_words(ranking, other) != number:
        return ("pairs",)
    if type(table) is not list or len(table) != len(line):
        return ("table",)
    for i, row in enumerate(table):
        if type(row) is not list or len(row) != len(line) - i or any(type(one) is not int for one in row):
            return ("table",)
    for i in range(len(line)):
        for j in range(i, len(line)):
            if any(table[i][j - i] > bound for bound in bounds_by_words(line, ranking, table, i, j)):
                return ("number", i, j)
    return ("less",) if table[0][len(line) - 1] < number else None


def parts_by_words(tree, some):
    """Some names in the parts that hang together by ties among them alone."""
    parts = [{name} for name in some]
    for one, other in tree:
        joined = [part for part in parts if one in part or other in part]
        if one in some and other in some and len(joined) == 2:
            parts = [part for part in parts if part not in joined] + [joined[0] | joined[1]]
    return parts


def is_tree_by_words(names, thing):
    """Whether anything is a tree of some names."""
    if type(thing) is not list or any(type(tie) is not tuple or len(tie) != 2 for tie in thing):
        return False
    for tie in thing:
        if not all(type(name) is int and name in names for name in tie) or not tie[0] < tie[1]:
            return False
    if any(not tie < later for tie, later in zip(thing, thing[1:])):
        return False
    return len(thing) == len(names) - 1 and len(parts_by_words(thing, names)) == 1


@lru_cache(maxsize=None)
def trees_of(many):
    """All trees of the names from 0 on, so many."""
    names = list(range(many))
    return [ties for ties in combinations(list(combinations(names, 2)), many - 1)
            if is_tree_by_words(names, list(ties))]


def all_trees(names):
    """All trees of some names, all lists of ties gone through."""
    known = sorted(names)
    return [[(known[one], known[other]) for one, other in ties] for ties in trees_of(len(known))]


def first_apart_by_words(tree, ranking):
    """None, or the least count of first names of a ranking that don't hang together in a tree."""
    for count in range(1, len(ranking) + 1):
        if len(parts_by_words(tree, ranking[:count])) > 1:
            return count
    return None


def trees_by_words(folk):
    """All trees on which all rankings of a folk fall, all trees gone through."""
    return [tree for tree in all_trees(folk[0])
            if all(first_apart_by_words(tree, ranking) is None for ranking in folk)]


def options_by_words(folk, gone, name):
    """The names at which a name can hang while others are taken out."""
    found = []
    for other in sorted(folk[0]):
        fits = other not in gone and other != name
        for ranking in folk:
            left = [one for one in ranking if one not in gone]
            if left[0] == name:
                fits = fits and left[1] == other
            else:
                fits = fits and other in left[:left.index(name)]
        if fits:
            found.append(other)
    return found


def tree_judged_by_words(folk, paper):
    """What the judge of papers of trees tells of a folk and anything."""
    names_there = sorted(folk[0])
    if not is_paper_by_words(paper, {"tree": 2, "gone": 2}):
        return ("paper",)
    word, told = paper
    if word == "tree":
        if not is_tree_by_words(names_there, told):
            return ("tree",)
        wrong = [hand for hand, ranking in enumerate(folk) if first_apart_by_words(told, ranking) is not None]
        return ("falls", wrong[0]) if wrong else None
    if type(told) is not list or not 0 < len(told) < len(names_there):
        return ("gone",)
    if not are_by_words(told, len(told), names_there):
        return ("gone",)
    for k, name in enumerate(told):
        lasts = [[one for one in ranking if one not in told[:k]][-1] for ranking in folk]
        if name not in lasts:
            return ("last", k)
    found = options_by_words(folk, told[:-1], told[-1])
    return ("hangs", min(found)) if found else None


def balance_by_words(folk, tree):
    """The least name without which no names that hang together hold more than half of the tops."""
    names = sorted(folk[0])
    for name in names:
        parts = parts_by_words(tree, [other for other in names if other != name])
        held = [len([1 for ranking in folk if ranking[0] in part]) for part in parts]
        if all(2 * many <= len(folk) for many in held):
            return name
    raise AssertionError("no balance")


def some_on_tree(chance, tree, names, many):
    """Some rankings that fall on a tree, perhaps told again."""
    told = []
    for _ in range(many):
        ranking = [chance.choice(names)]
        while len(ranking) < len(names):
            near = [other for tie in tree for one, other in (tie, tie[::-1])
                    if one in ranking and other not in ranking]
            ranking.append(chance.choice(near))
        told.append(ranking)
    return told


def some_tree(chance, names):
    """A tree of some names: each one but the first hangs at any one ahead of it."""
    order = chance.sample(names, len(names))
    ties = [tuple(sorted((name, chance.choice(order[:place])))) for place, name in enumerate(order) if place]
    return sorted(ties)
