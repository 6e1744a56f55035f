"""Trees in the place of lines: points 27 to 31 of the document."""

from ontheline.errors import NoFit, NoNames, NoNumber, NoTree
from ontheline.papers import are_some_names, is_paper
from ontheline.rankings import (
    check_folk, check_ranking, check_rising, is_ahead, is_whole, kept, last_of)

WORDS = (("tree", 2), ("gone", 2))


def is_tree(names, thing):
    """Whether anything is a tree of rising names."""
    check_rising(names)
    return is_tree_of(names, thing)


def is_tree_of(names, thing):
    """Whether anything is a tree of some names, told in any order."""
    if not isinstance(thing, list) or len(thing) != len(names) - 1:
        return False
    if not all(is_tie(names, tie) for tie in thing):
        return False
    # A tie that is told twice needs no look of its own: there are too few others then for
    # all names to hang together.
    return thing == sorted(thing) and are_together(thing, names)


def is_tie(names, thing):
    """Whether anything is a tuple of two of some names, the one below the other."""
    if not isinstance(thing, tuple) or len(thing) != 2:
        return False
    return all(is_whole(name) and name in names for name in thing) and thing[0] < thing[1]


def tied_to(tree, name):
    """The names to which a name has a tie."""
    return [one for one, other in tree if other == name] + [other for one, other in tree if one == name]


def hanging_with(tree, name, some):
    """Those of some names to which ties lead from one of them, by way of some of them alone."""
    found = [name]
    waiting = [name]
    while waiting:
        near = tied_to(tree, waiting.pop())
        for other in near:
            if other in some and other not in found:
                found.append(other)
                waiting.append(other)
    return found


def are_together(tree, some):
    """Whether some names hang together in a tree."""
    return len(hanging_with(tree, some[0], some)) == len(some)


def check_tree(names, thing):
    """Refuse what is no tree of some names."""
    if not is_tree_of(names, thing):
        raise NoTree("this is no tree of the names")


def first_apart(tree, ranking):
    """None where a ranking falls on a tree, else the least count of first names that don't hang together."""
    check_ranking(ranking)
    check_tree(ranking, tree)
    return count_apart(tree, ranking)


def count_apart(tree, ranking):
    """What first_apart tells of a tree and a ranking of its names."""
    for count in range(1, len(ranking) + 1):
        if not are_together(tree, ranking[:count]):
            return count
    return None


def first_not_on_tree(tree, folk):
    """The first hand of a folk whose ranking doesn't fall on a tree of its names, or None."""
    for hand, ranking in enumerate(folk):
        if count_apart(tree, ranking) is not None:
            return hand
    return None


def options(folk, gone, name):
    """The names at which a name can hang while others are taken out, rising."""
    check_folk(folk)
    if not are_some_names(gone, 0, folk):
        raise NoNames("these are no unlike names of the folk")
    left = [one for one in sorted(folk[0]) if one not in gone]
    if not is_whole(name) or name not in left or len(left) == 1:
        raise NoNames("this is no name that is left, and not alone")
    return options_left(folk, left, name)


def options_left(folk, left, name):
    """The names at which one of the names that are left can hang, rising."""
    rankings = [kept(ranking, left) for ranking in folk]
    others = [other for other in sorted(left) if other != name]
    return [other for other in others if all(lets_hang(ranking, name, other) for ranking in rankings)]


def lets_hang(ranking, name, other):
    """Whether a ranking of the names that are left lets the one name hang at the other."""
    if ranking[0] == name:
        return ranking[1] == other
    return is_ahead(ranking, other, name)


def tree_judged(folk, paper):
    """None where a paper of trees is let by, else the first thing that is not so."""
    check_folk(folk)
    if not is_paper(paper, WORDS):
        return ("paper",)
    if paper[0] == "tree":
        return whole_tree_judged(folk, paper[1])
    return gone_judged(folk, paper[1])


def whole_tree_judged(folk, tree):
    """What is not so of a tree on which all rankings are said to fall, or None."""
    if not is_tree_of(folk[0], tree):
        return ("tree",)
    hand = first_not_on_tree(tree, folk)
    return None if hand is None else ("falls", hand)


def gone_judged(folk, names):
    """What is not so of names taken out till one can hang nowhere, or None."""
    if not are_some_names(names, 1, folk) or len(names) == len(folk[0]):
        return ("gone",)
    for k, name in enumerate(names):
        left = [one for one in folk[0] if one not in names[:k]]
        if not any(last_of(ranking, left) == name for ranking in folk):
            return ("last", k)
    left = [one for one in folk[0] if one not in names[:-1]]
    found = options_left(folk, left, names[-1])
    return ("hangs", found[0]) if found else None


def hangings(folk):
    """The names in turn that are taken out till one is left, each with all names at which it can hang."""
    first = folk[0]
    # Names are taken out as the first hand has them, its last one first, so that each is
    # last in a ranking; which of those last ones goes first makes no odds.
    return [
        (first[place], options_left(folk, first[:place + 1], first[place]))
        for place in range(len(first) - 1, 0, -1)]


def tree_told(folk):
    """A paper of trees that is let by: a tree on which all rankings fall, or names taken out."""
    check_folk(folk)
    gone = []
    ties = []
    for name, found in hangings(folk):
        gone.append(name)
        if not found:
            return ("gone", gone)
        ties.append(tie_of(name, found[0]))
    return ("tree", sorted(ties))


def tie_of(one, other):
    """The tie of two names, told from either one."""
    return (min(one, other), max(one, other))


def trees_many(folk):
    """How many trees there are on which all rankings of a folk fall."""
    check_folk(folk)
    return count_trees(folk)


def count_trees(folk):
    """How many ways there are to hang each name in turn at another one."""
    many = 1
    for _, found in hangings(folk):
        many = many * len(found)
    return many


def tree_by(folk, number):
    """The tree that has a number among those on which all rankings of a folk fall."""
    check_folk(folk)
    if not is_whole(number) or not 0 <= number < count_trees(folk):
        raise NoNumber("no tree on which all rankings fall has this number")
    ties = []
    # Each name's place among those at which it can hang is a figure of the number, the
    # lowest one first; each figure has as many values as there are such places.
    for name, found in hangings(folk):
        ties.append(tie_of(name, found[number % len(found)]))
        number = number // len(found)
    return sorted(ties)


def tree_number(folk, tree):
    """The number of a tree among those on which all rankings of a folk fall."""
    check_folk(folk)
    check_tree(folk[0], tree)
    if first_not_on_tree(tree, folk) is not None:
        raise NoFit("a ranking doesn't fall on the tree")
    number = 0
    worth = 1
    for name, found in hangings(folk):
        near = tied_to(tree, name)
        # Of the names that are left, just one has a tie to the name, and it can hang there.
        places = [place for place, other in enumerate(found) if other in near]
        number += worth * places[0]
        worth = worth * len(found)
    return number


def balance(folk, tree):
    """The least name without which no names that hang together hold more than half of the tops."""
    check_folk(folk)
    check_tree(folk[0], tree)
    tops = [ranking[0] for ranking in folk]
    names = sorted(folk[0])
    return [name for name in names if is_balance(tree, names, tops, name)][0]


def is_balance(tree, names, tops, name):
    """Whether no names that hang together without a name hold more than half of the tops."""
    others = [other for other in names if other != name]
    for start in tied_to(tree, name):
        part = hanging_with(tree, start, others)
        held = [top for top in tops if top in part]
        if 2 * len(held) > len(tops):
            return False
    return True
