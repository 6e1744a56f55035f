"""What several tests use: things that are none, and plain ways to check what is told."""

from contextlib import contextmanager
from itertools import permutations

from ontheline import errors

LONGEST = 10 ** 30 - 1

# Each of these is no ranking, and so no line either.
NO_RANKINGS = [
    None, True, False, 0, 7, -3, "", "0>1", (), (0,), (0, 1), [],
    [True], [False], [0, True], [0, False], [1, True], [None], ["0"], [-1], [0, -1], [-LONGEST],
    [0, 0], [3, 1, 3], [0, 1, None], [0, "1"], [[0]], [[0, 1]], [(0,)], [0, [1]], [(0, 1), (1, 0)], [()], [[]],
    [[[[[[[[0]]]]]]]], list(range(11)), list(range(10)) + [0], [5] * 11,
]

# Each of these is no folk.
NO_FOLKS = [
    None, True, False, 0, 5, -1, "", "0>1\n", (), [], [0], [0, 1], ((0, 1),), ([0, 1],), [(0, 1)], [[]],
    [None], [True], [""], [[0], []], [[0, 1], (1, 0)], [[0, 1], None], [[0, 1], 5], [[0, 1], "0>1"],
    [[0, 1], [0, 2]], [[0, 1], [0]], [[0], [0, 1]], [[0, 1], [0, 1, 2]], [[0, 1], [1, 0], [1, 2]],
    [[0, 0]], [[0, 1], [1, 1]], [[0, 1], [0, True]], [[False, 1]], [[-1, 0]], [[0, 1], [0, -1]],
    [[[0, 1]]], [list(range(11))], [[0, 1]] * 21, [[0, 1]] * 20 + [None], [[0]] * 21,
]

ALL_ERRORS = [
    "NoRanking", "NoFolk", "NoNames", "NoFit", "NoLine", "NoNumber", "NoTree", "NoPaper", "NoText", "NoTitle",
    "NoRow", "NoBack", "TooGreat", "NoWeights", "NoFall", "NoTops", "NoFixed", "NoHand", "NoRule",
]


# Each of these is no list of whole numbers, but the last one, which has none.
ODD_THINGS = [
    None, True, False, 0, 1, -1, LONGEST, "", "0", "line", "0 1 2", (), ((),), (0,), (0, 1), (0, 1, 2), [None],
    [[]], [()], [""], ["0", "1"], [True, False], [[0, 1]], [(0, 1)], [[[[[[[[0]]]]]]]], ((((((((0,),),),),),),),), [],
]


@contextmanager
def refused(case, kind):
    """The rows below are refused with the error class of this name, and with none of the others."""
    with case.assertRaises(getattr(errors, kind)) as held:
        yield held
    error = held.exception
    case.assertIsInstance(error, errors.FolkError)
    case.assertIsInstance(error, ValueError)
    others = [name for name in ALL_ERRORS if name != kind]
    case.assertEqual([name for name in others if isinstance(error, getattr(errors, name))], [])


def orders(names):
    """All rankings of some names."""
    return [list(order) for order in permutations(names)]


def some_on_line(chance, line, many):
    """Some rankings that fall on a line, perhaps told again."""
    told = []
    for _ in range(many):
        low = high = chance.randrange(len(line))
        ranking = [line[low]]
        while len(ranking) < len(line):
            if low > 0 and (high == len(line) - 1 or chance.random() < 0.5):
                low -= 1
                ranking.append(line[low])
            else:
                high += 1
                ranking.append(line[high])
        told.append(ranking)
    return told


def way_of_exchanges(chance, start, wanted):
    """Rankings from the one to the other, in which each but the first has two neighbours exchanged that must be."""
    way = [list(start)]
    while way[-1] != wanted:
        last = way[-1]
        places = [at for at in range(1, len(last)) if wanted.index(last[at - 1]) > wanted.index(last[at])]
        at = chance.choice(places)
        way.append(last[:at - 1] + [last[at], last[at - 1]] + last[at + 1:])
    return way


def some_along_row(chance, names, many):
    """Some rankings along a row, in its order, perhaps told again: each two names change sides once at most."""
    way = way_of_exchanges(chance, chance.sample(names, len(names)), chance.sample(names, len(names)))
    return [list(way[at]) for at in sorted(chance.choices(range(len(way)), k=many))]


def bent_lists(right, known):
    """Lists, and other things, that are none of as many unlike known numbers, by one change of a list that is."""
    spare = [one for one in known if one not in right]
    bent = ODD_THINGS + [tuple(right), [right], right[:-1], right[1:], right + right[:1], right + [max(known) + 1]]
    bent += [right + spare[:1]] if spare else []
    for place in range(len(right)):
        wrong = [None, True, False, -1, max(known) + 1, LONGEST, 10 ** 50, "", str(right[place]), (right[place],),
                 [right[place]]]
        wrong += [one for one in right if one != right[place]]
        bent += [right[:place] + [one] + right[place + 1:] for one in wrong]
    return bent


def bent_papers(paper, others):
    """Things that begin with no right word, or hold more or fewer things, by one change of a paper."""
    word, *rest = paper
    words = [None, True, False, 0, 1, "", word.upper(), word + " ", " " + word, word[:-1], word + "s", word[0],
             (word,), [word], *others]
    bent = [(other, *rest) for other in words]
    bent += [paper[:-1], paper[1:], paper + (None,), paper + ([],), paper + paper[-1:], paper + paper, (word,), word,
             (paper,), [paper], list(paper), [list(paper)], ()]
    return bent + [thing for thing in ODD_THINGS if thing != ()]


def numbers_in(thing):
    """All things in a tuple or a list that are neither texts nor tuples nor lists."""
    if isinstance(thing, (list, tuple)):
        return [number for part in thing for number in numbers_in(part)]
    return [] if isinstance(thing, str) else [thing]


def is_stretch(line, names):
    """Whether names stand side by side in a line, by the words of point 7."""
    places = sorted(line.index(name) for name in names)
    return places == list(range(places[0], places[0] + len(places)))


def falls_by_words(line, ranking):
    """Whether a ranking falls on a line, by the words of point 7."""
    return all(is_stretch(line, ranking[:count]) for count in range(1, len(ranking) + 1))


def inner_lists(thing):
    """All lists that stand in a thing, itself among them, as often as they stand there."""
    if not isinstance(thing, (list, tuple)):
        return []
    found = [thing] if isinstance(thing, list) else []
    for part in thing:
        found.extend(inner_lists(part))
    return found


def frozen(thing):
    """A thing with tuples in the place of its lists: a picture that nothing changes."""
    if isinstance(thing, (list, tuple)):
        return (isinstance(thing, list), tuple(frozen(part) for part in thing))
    return thing


def spoil(thing):
    """Change each list that stands in a thing, and make it longer."""
    for part in inner_lists(thing):
        part.reverse()
        part.append("spoilt")
        part[0] = "spoilt"


def check_own(case, ask, *handed):
    """What is asked leaves what was handed in as it was, and what is told is the asker's own."""
    before = frozen(handed)
    told = ask(*handed)
    picture = frozen(told)
    case.assertEqual(frozen(handed), before)
    lists = inner_lists(told)
    case.assertEqual(len({id(part) for part in lists}), len(lists), "a list stands at two places")
    given = {id(part) for part in inner_lists(handed)}
    case.assertEqual([part for part in lists if id(part) in given], [], "a list was handed in")
    again = ask(*handed)
    case.assertEqual(frozen(again), picture)
    case.assertEqual({id(part) for part in inner_lists(again)} & {id(part) for part in lists}, set())
    spoil(told)
    case.assertEqual(frozen(handed), before)
    case.assertEqual(frozen(again), picture)
    case.assertEqual(frozen(ask(*handed)), picture)
    case.assertEqual(frozen(handed), before)


def no_weights(many):
    """Things that are no weights of so many hands."""
    right = [1 + place for place in range(many)]
    things = list(ODD_THINGS)
    things += [right[:-1], right + [1], tuple(right), [right], right + right, [[]] * many]
    for place in range(many):
        for wrong in (0, -1, -LONGEST, True, False, None, "1", "", (), (1,), [1], [], (((1,),),)):
            things.append(right[:place] + [wrong] + right[place + 1:])
    return things


def some_weights(chance, many):
    """Some weights of so many hands: small ones, now and then all alike, or of many figures."""
    most = chance.choice([1, 2, 3, 9, LONGEST])
    return [chance.randint(1, most) for _ in range(many)]


def folk_that_beats(names, pairs):
    """A folk of which the first name of each of these pairs beats the second one, and none else does."""
    folk = []
    for one, other in pairs:
        rest = [name for name in names if name not in (one, other)]
        folk += [[one, other] + rest, rest[::-1] + [one, other]]
    return folk
