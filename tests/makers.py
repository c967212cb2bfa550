"""Ladders, groves and odd things for the tests, made by a fixed seed: each run makes the same ones."""

import random

SIXTY = 10 ** 59
SIXTY_NINES = 10 ** 60 - 1


def odd_things():
    """Things that are no ladder, tree, grove, name, number, truth or list; made anew at each call."""
    return [None, "", "z", "a", " ", b"a", {}, {"a": 1}, set(), frozenset([1]), object(), len, int, range(3)]


def ladder_order(one, other):
    """-1, 0 or 1, by the document's words, without Python's order of tuples."""
    for mine, his in zip(one, other):
        way = ladder_order(mine[0], his[0])
        if way:
            return way
        if mine[1] != his[1]:
            return -1 if mine[1] < his[1] else 1
    if len(one) == len(other):
        return 0
    return -1 if len(one) < len(other) else 1


def random_ladder(chance, deepest, widest=3):
    exponents = []
    for turn in range(chance.randint(0, widest) if deepest else 0):
        exponent = random_ladder(chance, deepest - 1, widest)
        at = 0
        while at < len(exponents) and ladder_order(exponents[at], exponent) > 0:
            at += 1
        if at == len(exponents) or exponents[at] != exponent:
            exponents.insert(at, exponent)
    return tuple((exponent, chance.choice([1, 1, 2, 3, 10, SIXTY_NINES])) for exponent in exponents)


def ladders(seed, many, deepest=4):
    chance = random.Random(seed)
    return [random_ladder(chance, chance.randint(0, deepest)) for turn in range(many)]


def tower(deepest):
    """A ladder so deep, with one part a level."""
    ladder = ()
    for turn in range(deepest):
        ladder = ((ladder, 1),)
    return ladder


def random_pairs(chance, deepest, widest):
    pairs = []
    for turn in range(chance.randint(0, widest) if deepest else 0):
        tree = (chance.choice(["a", "ab", "b", "c", "abcdefgh"]), random_grove(chance, deepest - 1, widest))
        pairs.append((tree, chance.choice([1, 1, 2, 3, 10, SIXTY_NINES])))
    return pairs


def random_grove(chance, deepest, widest=3):
    unlike = []
    for tree, many in random_pairs(chance, deepest, widest):
        if tree not in [pair[0] for pair in unlike]:
            unlike.append((tree, many))
    return tuple(sorted(unlike))


def groves(seed, many, deepest=4):
    chance = random.Random(seed)
    return [random_grove(chance, chance.randint(0, deepest)) for turn in range(many)]


def stem(deepest):
    """A grove so deep, with one tree a level."""
    grove = ()
    for turn in range(deepest):
        grove = ((("a", grove), 1),)
    return grove


def names_of(many):
    """So many unlike names, sorted."""
    letters = "abcdefghijklmnopqrstuvwxyz"
    return [first + second for first in letters for second in letters][:many]


def spoiled(text):
    """Texts near a text: a sign taken away, put in, doubled, or changed, at each place."""
    signs = " \t\n+-*_[]{},.z0a19A"
    near = []
    for at in range(len(text) + 1):
        near.append(text[:at] + text[at + 1:])
        near.extend(text[:at] + sign + text[at:] for sign in signs)
        near.extend(text[:at] + sign + text[at + 1:] for sign in signs)
    return near
