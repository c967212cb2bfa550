"""The texts of groves."""

from felltimber.basics import FIGURES, LETTERS, MOST_DEEP, MOST_FIGURES, MOST_PARTS, run_of, sign_at
from felltimber.errors import NoGrove
from felltimber.trees import deep_of, is_grove, parts_of


def show_grove(grove):
    """The text of a grove."""
    if not grove:
        return "-"
    return ", ".join([show_pair(tree, many) for tree, many in grove])


def show_pair(tree, many):
    """The text of one pair of a grove."""
    if many == 1:
        return show_tree(tree)
    return f"{many} {show_tree(tree)}"


def show_tree(tree):
    """The text of a tree: its kind, and what it holds."""
    kind, held = tree
    if not held:
        return kind
    return kind + "{" + show_grove(held) + "}"


def read_grove(text):
    """The grove that a text shows; NoGrove where it shows none, or one beyond the bounds."""
    if text == "-":
        return ()
    grove, at = read_pairs(text, 0, MOST_DEEP)
    if at != len(text) or not is_grove(grove):
        raise NoGrove("the text is no grove's")
    if parts_of(grove) > MOST_PARTS or deep_of(grove) > MOST_DEEP:
        raise NoGrove("the grove has too many parts or is too deep")
    # One grove has one text: another text that comes to the same pairs shows no grove.
    if show_grove(grove) != text:
        raise NoGrove("the grove is shown by another text")
    return grove


def read_pairs(text, at, left):
    """The pairs from a place of the text on, and the place behind them."""
    pair, at = read_pair(text, at, left)
    pairs = [pair]
    while text[at:at + 2] == ", ":
        pair, at = read_pair(text, at + 2, left)
        pairs.append(pair)
    return tuple(pairs), at


def read_pair(text, at, left):
    """The pair from a place of the text on, and the place behind it."""
    many = 1
    figures = run_of(text, at, FIGURES)
    if figures:
        at += len(figures)
        if len(figures) > MOST_FIGURES or sign_at(text, at) != " ":
            raise NoGrove("a number has too many figures, or no blank behind it")
        many = int(figures)
        at += 1
    tree, at = read_tree(text, at, left)
    return (tree, many), at


def read_tree(text, at, left):
    """The tree from a place of the text on, and the place behind it."""
    kind = run_of(text, at, LETTERS)
    at += len(kind)
    if sign_at(text, at) != "{":
        return (kind, ()), at
    # Each brace makes the grove deeper, so the reading stops ahead of a row of braces without end.
    if left == 0:
        raise NoGrove("the grove is too deep")
    held, at = read_pairs(text, at + 1, left - 1)
    if sign_at(text, at) != "}":
        raise NoGrove("a brace doesn't close")
    return (kind, held), at + 1
