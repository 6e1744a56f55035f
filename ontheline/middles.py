"""Rules that choose by middles: points 19 to 21 of the document."""

from itertools import combinations

from ontheline.errors import NoFixed, NoHand, NoRule, NoTops, TooGreat
from ontheline.lines import check_line, is_falling
from ontheline.papers import are_unlike_ones, is_paper
from ontheline.rankings import are_names_of, is_ahead, is_whole

WORDS = (("fixed", 2), ("gains", 5), ("unlike", 4))
MOST_TOPS = 20
# With more names or hands than these a rule would have too many tellings.
MOST_NAMES_OF_RULE = 5
MOST_HANDS_OF_RULE = 4


def are_names_again(thing, many, line):
    """Whether anything is a list of so many names of a line, perhaps told again."""
    return isinstance(thing, list) and len(thing) == many and are_names_of(line, thing)


def check_fixed(line, many, fixed):
    """Refuse what are no fixed names for so many hands."""
    if not are_names_again(fixed, many + 1, line):
        raise NoFixed("these are no fixed names of the line, one more than hands")


def middle_one(line, names):
    """The middle one of an odd number of names, by their places on a line."""
    places = sorted(line.index(name) for name in names)
    return line[places[len(places) // 2]]


def middle_of(line, tops, fixed):
    """The middle one of tops and fixed names, by their places on a line."""
    check_line(line)
    if not isinstance(tops, list) or not 1 <= len(tops) <= MOST_TOPS or not are_names_of(line, tops):
        raise NoTops("these are no tops on the line")
    check_fixed(line, len(tops), fixed)
    return middle_one(line, tops + fixed)


def check_size(line, many):
    """Refuse what is no line, or no number of hands, of a rule."""
    check_line(line)
    if len(line) > MOST_NAMES_OF_RULE:
        raise TooGreat("a rule's line has five names at most")
    if not is_whole(many) or not 1 <= many <= MOST_HANDS_OF_RULE:
        raise NoHand("a rule is for one to four hands")


def check_rule(line, many, rule):
    """Refuse what is no rule of so many hands on a line."""
    check_size(line, many)
    if not are_names_again(rule, len(tellings_of(line, many)), line):
        raise NoRule("this is no rule: a name of the line for each telling")


def tellings_of(line, many):
    """All tellings of so many hands, in the order of tuples."""
    tellings = [()]
    for _ in range(many):
        tellings = [telling + (name,) for telling in tellings for name in sorted(line)]
    return tellings


def rule_of(line, many, fixed):
    """The rule of the middles with some fixed names."""
    check_size(line, many)
    check_fixed(line, many, fixed)
    return [middle_one(line, list(telling) + fixed) for telling in tellings_of(line, many)]


def chosen_by(line, many, rule):
    """A dict from each telling to the name that a rule has there."""
    return dict(zip(tellings_of(line, many), rule))


def told_instead(telling, hand, name):
    """A telling in which a hand tells a name instead, the others as they are."""
    return telling[:hand] + (name,) + telling[hand + 1:]


def told_exchanged(telling, one, other):
    """A telling in which two hands exchange what they tell."""
    return told_instead(told_instead(telling, one, telling[other]), other, telling[one])


def rule_judged(line, many, rule, paper):
    """None where a paper for a rule is let by, else the first thing that is not so."""
    check_rule(line, many, rule)
    if not is_paper(paper, WORDS):
        return ("paper",)
    chosen = chosen_by(line, many, rule)
    if paper[0] == "fixed":
        return fixed_judged(line, many, chosen, paper[1])
    if paper[0] == "gains":
        return gains_judged(line, many, chosen, paper)
    return unlike_judged(line, many, chosen, paper)


def fixed_judged(line, many, chosen, names):
    """What is not so of the fixed names that a rule is said to have, or None."""
    if not are_names_again(names, many + 1, line) or not are_along(line, names):
        return ("fixed",)
    for telling in tellings_of(line, many):
        if middle_one(line, list(telling) + names) != chosen[telling]:
            return ("telling", telling)
    return None


def are_along(line, names):
    """Whether of some names of a line none stands ahead of the one before it along the line."""
    places = [line.index(name) for name in names]
    return places == sorted(places)


def gains_judged(line, many, chosen, paper):
    """What is not so of a hand that is said to gain by telling otherwise, or None."""
    _, telling, hand, name, ranking = paper
    if not is_telling(telling, many, line) or not is_hand(hand, many):
        return ("gains",)
    if not is_whole(name) or name not in line or not is_like_telling(line, ranking, telling[hand]):
        return ("gains",)
    instead = chosen[told_instead(telling, hand, name)]
    return None if is_ahead(ranking, instead, chosen[telling]) else ("gain",)


def unlike_judged(line, many, chosen, paper):
    """What is not so of two hands by whose exchange a rule is said to have another name, or None."""
    _, telling, one, other = paper
    if not is_telling(telling, many, line) or not is_hand(one, many) or not is_hand(other, many):
        return ("unlike",)
    if one >= other:
        return ("unlike",)
    exchanged = chosen[told_exchanged(telling, one, other)]
    return None if exchanged != chosen[telling] else ("exchange",)


def is_telling(thing, many, line):
    """Whether anything is a telling of so many hands."""
    return isinstance(thing, tuple) and len(thing) == many and are_names_of(line, thing)


def is_hand(thing, many):
    """Whether anything is one of so many hands."""
    return is_whole(thing) and 0 <= thing < many


def is_like_telling(line, thing, top):
    """Whether anything is a ranking that falls on a line and has the top that is told."""
    return are_unlike_ones(thing, len(line), line) and is_falling(line, thing) and thing[0] == top


def rule_looked(line, many, rule):
    """A paper for a rule that is let by: its fixed names, or what no rule of middles does."""
    check_rule(line, many, rule)
    chosen = chosen_by(line, many, rule)
    fixed = [chosen[told_at_ends(line, many, lasts)] for lasts in range(many + 1)]
    if fixed_judged(line, many, chosen, fixed) is None:
        return ("fixed", fixed)
    paper = gain_found(line, many, chosen)
    # A rule that is none of middles, though no hand gains, doesn't treat all hands alike
    # (Moulin, On strategy-proofness and single peakedness).
    if paper is None:
        paper = unlike_found(line, many, chosen)
    return paper


def told_at_ends(line, many, lasts):
    """The telling in which so many hands tell the last name of a line, all others the first one."""
    return (line[0],) * (many - lasts) + (line[-1],) * lasts


def gain_found(line, many, chosen):
    """A paper of a hand that gains by telling otherwise, or None."""
    for telling in tellings_of(line, many):
        for hand in range(many):
            for name in line:
                instead = chosen[told_instead(telling, hand, name)]
                ranking = ranking_toward(line, telling[hand], instead)
                if is_ahead(ranking, instead, chosen[telling]):
                    return ("gains", telling, hand, name, ranking)
    return None


def ranking_toward(line, top, wanted):
    """The ranking that falls on a line, with this top, and has the wanted name as far ahead as can be."""
    place = line.index(top)
    earlier = line[:place][::-1]
    later = line[place + 1:]
    if wanted in earlier:
        return [top] + earlier + later
    return [top] + later + earlier


def unlike_found(line, many, chosen):
    """A paper of two hands by whose exchange a rule has another name, or None."""
    for telling in tellings_of(line, many):
        for one, other in combinations(range(many), 2):
            if chosen[told_exchanged(telling, one, other)] != chosen[telling]:
                return ("unlike", telling, one, other)
    return None
