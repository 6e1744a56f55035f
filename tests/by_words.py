"""What the judges tell by the words of points 10 to 14, asked plainly and one thing after the other."""

from itertools import combinations, permutations, product

from samples import falls_by_words


def is_paper_by_words(paper, lengths):
    if type(paper) is not tuple or paper == () or type(paper[0]) is not str:
        return False
    return paper[0] in lengths and len(paper) == lengths[paper[0]]


def are_by_words(thing, many, known):
    """Whether a thing is a list of so many unlike numbers that are known."""
    if type(thing) is not list or len(thing) != many:
        return False
    return all(type(one) is int and one in known and thing.count(one) == 1 for one in thing)


def has_ahead(ranking, one, other):
    return ranking.index(one) < ranking.index(other)


def judged_by_words(folk, paper):
    """What the judge of papers of lines tells of a folk and anything."""
    hands_there = list(range(len(folk)))
    names_there = sorted(folk[0])
    if not is_paper_by_words(paper, {"line": 2, "three": 3, "four": 3}):
        return ("paper",)
    if paper[0] == "line":
        if not are_by_words(paper[1], len(names_there), names_there):
            return ("line",)
        wrong = [hand for hand in hands_there if not falls_by_words(paper[1], folk[hand])]
        return ("falls", wrong[0]) if wrong else None
    hands, names = paper[1:]
    many = {"three": (3, 3), "four": (2, 4)}[paper[0]]
    if not are_by_words(hands, many[0], hands_there) or not are_by_words(names, many[1], names_there):
        return (paper[0],)
    if paper[0] == "three":
        wrong = [k for k in range(3) if max(names, key=folk[hands[k]].index) != names[k]]
        return ("last", wrong[0]) if wrong else None
    by_letter = dict(zip("abcd", names))
    sayings = ["0ab", "0bc", "1cb", "1ba", "0db", "1db"]
    wrong = [k for k, (hand, one, other) in enumerate(sayings)
             if not has_ahead(folk[hands[int(hand)]], by_letter[one], by_letter[other])]
    return ("ahead", wrong[0]) if wrong else None


def change_once_by_words(folk, row, one, other):
    """Whether the hands that have the one ahead stand all ahead of the others, or all behind."""
    sides = [has_ahead(folk[hand], one, other) for hand in row]
    return sides in (sorted(sides), sorted(sides, reverse=True))


def side_by_words(word, pair, place):
    """Whether the hand at a place has the first name of a pair ahead."""
    if word == "apart":
        return place == pair
    return place in ((0, 1) if pair == 0 else (0, 2))


def row_judged_by_words(folk, paper):
    """What the judge of papers of rows tells of a folk and anything."""
    hands_there = list(range(len(folk)))
    names_there = sorted(folk[0])
    if not is_paper_by_words(paper, {"row": 2, "apart": 3, "cross": 3}):
        return ("paper",)
    if paper[0] == "row":
        if not are_by_words(paper[1], len(hands_there), hands_there):
            return ("row",)
        wrong = [names for names in combinations(names_there, 2) if not change_once_by_words(folk, paper[1], *names)]
        return ("twice",) + min(wrong) if wrong else None
    hands, pairs = paper[1:]
    many = {"apart": (3, 3), "cross": (4, 2)}[paper[0]]
    if not are_by_words(hands, many[0], hands_there) or type(pairs) is not list or len(pairs) != many[1]:
        return (paper[0],)
    if not all(are_by_words(pair, 2, names_there) for pair in pairs):
        return (paper[0],)
    k = 0
    for at, (one, other) in enumerate(pairs):
        for place, hand in enumerate(hands):
            if has_ahead(folk[hand], one, other) != side_by_words(paper[0], at, place):
                return ("side", k)
            k += 1
    return None


def all_line_papers(folk):
    """All papers of lines of a folk that have the form told."""
    names, hands = sorted(folk[0]), range(len(folk))
    papers = [("line", list(line)) for line in permutations(names)]
    papers += [("three", list(some), list(few)) for some in permutations(hands, 3) for few in permutations(names, 3)]
    papers += [("four", list(some), list(few)) for some in permutations(hands, 2) for few in permutations(names, 4)]
    return papers


def all_bars(folk):
    """All bars of rows of a folk that have the form told, but for other orders of what is told of one hand."""
    hands, two = range(len(folk)), [list(pair) for pair in permutations(sorted(folk[0]), 2)]
    bars = [("apart", list(some), list(pairs)) for some in combinations(hands, 3) for pairs in product(two, repeat=3)]
    bars += [("cross", list(some), list(pairs)) for some in permutations(hands, 4) for pairs in product(two, repeat=2)]
    return bars


def all_rows(folk):
    """All rows of a folk, by the words of point 13, all orders of its hands gone through."""
    return [list(row) for row in permutations(range(len(folk)))
            if all(change_once_by_words(folk, row, *names) for names in combinations(folk[0], 2))]


def all_lines_by_words(folk):
    """All lines on which all rankings of a folk fall, all orders of its names gone through."""
    return [list(line) for line in permutations(sorted(folk[0]))
            if all(falls_by_words(line, ranking) for ranking in folk)]
