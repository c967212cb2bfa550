"""Ladders, groves, books and odd things for the tests, made by a fixed seed: each run makes the same ones."""

import random

from felltimber.books import Book

SIXTY = 10 ** 59
SIXTY_NINES = 10 ** 60 - 1


def odd_things():
    """Things that are no ladder, tree, grove, name, number, truth or list; made anew at each call."""
    return [None, "", "z", "a", " ", b"a", {}, {"a": 1}, set(), frozenset([1]), object(), len, int, range(3)]


def ladder_order(one, other):
    """-1, 0 or 1, by the document's words, without Python's order of tuples."""
    for mine, his in zip(one, other):
        way = ladder_order(mine[0], his[0])
        if way:
            return way
        if mine[1] != his[1]:
            return -1 if mine[1] < his[1] else 1
    if len(one) == len(other):
        return 0
    return -1 if len(one) < len(other) else 1


def random_ladder(chance, deepest, widest=3):
    exponents = []
    for turn in range(chance.randint(0, widest) if deepest else 0):
        exponent = random_ladder(chance, deepest - 1, widest)
        at = 0
        while at < len(exponents) and ladder_order(exponents[at], exponent) > 0:
            at += 1
        if at == len(exponents) or exponents[at] != exponent:
            exponents.insert(at, exponent)
    return tuple((exponent, chance.choice([1, 1, 2, 3, 10, SIXTY_NINES])) for exponent in exponents)


def ladders(seed, many, deepest=4):
    chance = random.Random(seed)
    return [random_ladder(chance, chance.randint(0, deepest)) for turn in range(many)]


def tower(deepest):
    """A ladder so deep, with one part a level."""
    ladder = ()
    for turn in range(deepest):
        ladder = ((ladder, 1),)
    return ladder


def random_pairs(chance, deepest, widest):
    pairs = []
    for turn in range(chance.randint(0, widest) if deepest else 0):
        tree = (chance.choice(["a", "ab", "b", "c", "abcdefgh"]), random_grove(chance, deepest - 1, widest))
        pairs.append((tree, chance.choice([1, 1, 2, 3, 10, SIXTY_NINES])))
    return pairs


def random_grove(chance, deepest, widest=3):
    unlike = []
    for tree, many in random_pairs(chance, deepest, widest):
        if tree not in [pair[0] for pair in unlike]:
            unlike.append((tree, many))
    return tuple(sorted(unlike))


def groves(seed, many, deepest=4):
    chance = random.Random(seed)
    return [random_grove(chance, chance.randint(0, deepest)) for turn in range(many)]


def stem(deepest):
    """A grove so deep, with one tree a level."""
    grove = ()
    for turn in range(deepest):
        grove = ((("a", grove), 1),)
    return grove


def names_of(many):
    """So many unlike names, sorted."""
    letters = "abcdefghijklmnopqrstuvwxyz"
    return [first + second for first in letters for second in letters][:many]


def spoiled(text):
    """Texts near a text: a sign taken away, put in, doubled, or changed, at each place."""
    signs = " \t\n+-*_[]{},.;>/z0a19A"
    near = []
    for at in range(len(text) + 1):
        near.append(text[:at] + text[at + 1:])
        near.extend(text[:at] + sign + text[at:] for sign in signs)
        near.extend(text[:at] + sign + text[at + 1:] for sign in signs)
    return near


def put_together(pairs):
    """The grove of pairs, by the document's words."""
    row = []
    for tree in sorted(pair[0] for pair in pairs):
        if not row or row[-1][0] != tree:
            row.append((tree, sum(many for other, many in pairs if other == tree)))
    return tuple(row)


def grove_on(chance, names, most, manys=(1, 1, 2, 3)):
    """A grove of at most so many parts, of trees of these names alone."""
    pairs = []
    left = most
    while names and left:
        taken = chance.randint(1, left)
        left -= taken
        pairs.append(((chance.choice(names), grove_on(chance, names, taken - 1, manys)), chance.choice(manys)))
    return put_together(pairs)


def random_rule(chance, names, manys):
    once = chance.randint(0, 4)
    return grove_on(chance, names, once, manys), grove_on(chance, names, chance.randint(0, 4 - once), manys)


def random_kinds(chance, ending, manys=(1, 1, 2, 3)):
    """What a book is made of; where it is to end, no kind leads to itself, in however many steps."""
    names = chance.sample(["a", "ab", "b", "c", "d", "e", "oak", "abcdefgh"], chance.randint(1, 8))
    rows = []
    for at, name in enumerate(names):
        may = names[:at] if ending else names
        rules = [random_rule(chance, may, manys) for turn in range(chance.randint(0, chance.choice([1, 2, 4])))]
        rows.append((name, chance.random() < 0.5, rules))
    chance.shuffle(rows)
    return rows


def books(seed, many, ending=True, manys=(1, 1, 2, 3)):
    chance = random.Random(seed)
    return [Book(random_kinds(chance, ending, manys)) for turn in range(many)]


def books_and_groves(seed, many, ending=True, most=10, manys=(1, 1, 2, 3)):
    """Pairs of a book and a grove of its kinds."""
    chance = random.Random(seed)
    return [(book, grove_on(chance, book.names(), most, manys)) for book in books(seed, many, ending)]


def places_with_trees(grove, ahead=()):
    """All places of a grove with the trees there."""
    row = []
    for at, (tree, many) in enumerate(grove):
        row.append((ahead + (at,), tree))
        row.extend(places_with_trees(tree[1], ahead + (at,)))
    return row


def kinds_of(grove):
    return sorted({tree[0] for place, tree in places_with_trees(grove)})


def all_rules(book, name):
    """The rules of a kind by their numbers, rule 0 too."""
    return [((), ())] + book.rules(name)


def all_falls(book, grove):
    """All tuples (place, rule) of a grove, by the document's words."""
    bare = [(place, tree) for place, tree in places_with_trees(grove) if tree[1] == ()]
    return [(place, rule) for place, tree in bare for rule in range(len(all_rules(book, tree[0])))]


def lesser(chance, ladder):
    """A ladder that is less than one that is not nought."""
    at = chance.randrange(len(ladder))
    exponent, many = ladder[at]
    left = chance.choice([0, many - 1, many // 2]) if many > 1 else 0
    head = ladder[:at] + (((exponent, left),) if left else ())
    tail = sorted([lesser(chance, exponent) for turn in range(chance.randint(0, 2))] if exponent else [], reverse=True)
    unlike = [other for place, other in enumerate(tail) if other not in tail[:place]]
    return head + tuple((other, chance.choice([1, 2, SIXTY])) for other in unlike)
