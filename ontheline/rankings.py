"""Rankings and folks: points 4 to 6 of the document."""

from itertools import combinations

from ontheline.errors import NoFit, NoFolk, NoNames, NoRanking

MOST_NAMES = 10
MOST_HANDS = 20


def is_whole(thing):
    """Whether anything is a whole number."""
    # To Python a truth is an int, to the document it is no number.
    return isinstance(thing, int) and not isinstance(thing, bool)


def is_name(thing):
    """Whether anything is a name."""
    return is_whole(thing) and thing >= 0


def is_ranking(thing):
    """Whether anything is a ranking."""
    if not isinstance(thing, list) or not 1 <= len(thing) <= MOST_NAMES:
        return False
    # Names are asked for first, as a set can't take all that may stand here.
    return all(is_name(name) for name in thing) and len(set(thing)) == len(thing)


def is_folk(thing):
    """Whether anything is a folk."""
    if not isinstance(thing, list) or not 1 <= len(thing) <= MOST_HANDS:
        return False
    if not all(is_ranking(ranking) for ranking in thing):
        return False
    return all(have_same_names(ranking, thing[0]) for ranking in thing)


def have_same_names(one, other):
    """Whether two rankings, or a line and a ranking, have the same names."""
    return sorted(one) == sorted(other)


def are_names_of(ranking, some):
    """Whether all of some things are names of a ranking."""
    return all(is_whole(name) and name in ranking for name in some)


def are_two_names(ranking, one, other):
    """Whether these are two unlike names of a ranking."""
    return one != other and are_names_of(ranking, [one, other])


def check_ranking(thing):
    """Refuse what is no ranking."""
    if not is_ranking(thing):
        raise NoRanking("this is no ranking")


def check_folk(thing):
    """Refuse what is no folk."""
    if not is_folk(thing):
        raise NoFolk("this is no folk")


def check_rising(thing):
    """Refuse what is no rising list of names."""
    # Such a list has the form of a ranking.
    if not is_ranking(thing) or thing != sorted(thing):
        raise NoNames("these are no names, the least first")


def check_same_names(one, other):
    """Refuse two rankings, or a line and a ranking, of other names."""
    if not have_same_names(one, other):
        raise NoFit("these have other names")


def check_rankings(rankings):
    """Refuse what are no rankings of the same names."""
    for ranking in rankings:
        check_ranking(ranking)
    for ranking in rankings:
        check_same_names(rankings[0], ranking)


def places_of(ranking):
    """A dict from each name of a ranking, or of a line, to its place."""
    return {name: place for place, name in enumerate(ranking)}


def is_ahead(ranking, one, other):
    """Whether the one of two names of a ranking is ahead of the other one in it."""
    return ranking.index(one) < ranking.index(other)


def kept(ranking, some):
    """Some names of a ranking alone, in its order."""
    return [name for name in ranking if name in some]


def last_of(ranking, some):
    """The last one, in a ranking, of some names of it."""
    return kept(ranking, some)[-1]


def ahead(ranking, one, other):
    """Whether the one name is ahead of the other one in a ranking."""
    check_ranking(ranking)
    if not are_two_names(ranking, one, other):
        raise NoNames("these are no two unlike names of the ranking")
    return is_ahead(ranking, one, other)


def count_unlike(one, other):
    """At how many two names two rankings of the same names are unlike."""
    places = places_of(other)
    return len([1 for a, b in combinations(one, 2) if places[a] > places[b]])


def unlike(one, other):
    """At how many two names two rankings are unlike."""
    check_rankings([one, other])
    return count_unlike(one, other)


def between(one, middle, other):
    """Whether the ranking middle lies between the one and the other."""
    check_rankings([one, middle, other])
    # At two names at which the ends are alike, a ranking that is unlike them counts
    # twice, elsewhere each one counts once: so the sums tell whether there are any.
    return count_unlike(one, middle) + count_unlike(middle, other) == count_unlike(one, other)


def cut_down(ranking, some):
    """The ranking of some of its names alone."""
    check_ranking(ranking)
    if not some or not are_names_of(ranking, some):
        raise NoNames("these are no names of the ranking")
    return kept(ranking, some)


def exchanged(ranking, place):
    """The ranking with the name at a place exchanged with the one ahead of it."""
    return ranking[:place - 1] + [ranking[place], ranking[place - 1]] + ranking[place + 1:]


def steps(one, other):
    """The rankings on a shortest way from the one to the other, both told too."""
    check_rankings([one, other])
    way = [list(one)]
    for place, name in enumerate(other):
        # All names that stand where they belong stand ahead of this place. So a name
        # comes forward past such ones only that the other ranking has behind it: no
        # step goes astray, and there are as few as can be.
        start = way[-1].index(name)
        for at in range(start, place, -1):
            way.append(exchanged(way[-1], at))
    return way
