"""The texts of ladders."""

from felltimber.basics import FIGURES, MOST_DEEP, MOST_FIGURES, MOST_PARTS, run_of, sign_at
from felltimber.errors import NoLadder
from felltimber.ladders import deep, is_ladder, parts

ONE = (((), 1),)


def show_ladder(ladder):
    """The text of a ladder."""
    if not ladder:
        return "0"
    return "+".join([show_pair(exponent, many) for exponent, many in ladder])


def show_pair(exponent, many):
    """The text of one pair of a ladder."""
    if not exponent:
        return str(many)
    base = "z"
    if exponent != ONE:
        base = f"z[{show_ladder(exponent)}]"
    if many == 1:
        return base
    return f"{base}*{many}"


def read_ladder(text):
    """The ladder that a text shows; NoLadder where it shows none, or one beyond the bounds."""
    if text == "0":
        return ()
    ladder, at = read_pairs(text, 0, MOST_DEEP)
    if at != len(text) or not is_ladder(ladder):
        raise NoLadder("the text is no ladder's")
    if parts(ladder) > MOST_PARTS or deep(ladder) > MOST_DEEP:
        raise NoLadder("the ladder has too many parts or is too deep")
    # One ladder has one text: another text that comes to the same pairs shows no ladder.
    if show_ladder(ladder) != text:
        raise NoLadder("the ladder is shown by another text")
    return ladder


def read_pairs(text, at, left):
    """The pairs from a place of the text on, and the place behind them."""
    pair, at = read_pair(text, at, left)
    pairs = [pair]
    while sign_at(text, at) == "+":
        pair, at = read_pair(text, at + 1, left)
        pairs.append(pair)
    return tuple(pairs), at


def read_pair(text, at, left):
    """The pair from a place of the text on, and the place behind it."""
    if sign_at(text, at) != "z":
        many, at = read_many(text, at)
        return ((), many), at
    exponent, at = read_exponent(text, at + 1, left)
    many = 1
    if sign_at(text, at) == "*":
        many, at = read_many(text, at + 1)
    return (exponent, many), at


def read_exponent(text, at, left):
    """The exponent between brackets from a place on, 1 where there are none, and the place behind it."""
    if sign_at(text, at) != "[":
        return ONE, at
    # Each bracket makes the ladder deeper, so the reading stops ahead of a row of brackets without end.
    if left == 0:
        raise NoLadder("the ladder is too deep")
    exponent, at = read_pairs(text, at + 1, left - 1)
    if sign_at(text, at) != "]":
        raise NoLadder("a bracket doesn't close")
    return exponent, at + 1


def read_many(text, at):
    """The number from a place of the text on, and the place behind it."""
    figures = run_of(text, at, FIGURES)
    if not 1 <= len(figures) <= MOST_FIGURES:
        raise NoLadder("a number is missing or has too many figures")
    return int(figures), at + len(figures)
