"""What the judges of papers share: the forms that a paper's things have."""

from ontheline.rankings import is_whole


def is_paper(thing, words):
    """Whether anything is a tuple with a word ahead and as many things as go with this word."""
    if not isinstance(thing, tuple) or not thing:
        return False
    return any(thing[0] == word and len(thing) == many for word, many in words)


def are_unlike_ones(thing, many, known):
    """Whether anything is a list of so many unlike whole numbers, all of them known ones."""
    if not isinstance(thing, list) or len(thing) != many:
        return False
    # Numbers are asked for first, as a set can't take all that may stand here.
    return all(is_whole(one) and one in known for one in thing) and len(set(thing)) == many


def are_hands(thing, many, folk):
    """Whether anything is a list of so many unlike hands of a folk."""
    return are_unlike_ones(thing, many, list(range(len(folk))))


def are_names(thing, many, folk):
    """Whether anything is a list of so many unlike names of a folk."""
    return are_unlike_ones(thing, many, folk[0])


def are_some_names(thing, least, folk):
    """Whether anything is a list of unlike names of a folk, at least so many."""
    return isinstance(thing, list) and len(thing) >= least and are_names(thing, len(thing), folk)
