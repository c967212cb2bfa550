"""The rows of words that the desk is told."""

from felltimber.basics import FIGURES, MOST_FIGURES, is_name, run_of
from felltimber.errors import NoRow

FORMS = {
    "book": ("name", "text"),
    "grove": ("name", "name", "text"),
    "show": ("name",),
    "fall": ("name", "place", "whole", "whole"),
    "back": ("name",),
    "again": ("name",),
    "rank": ("name",),
    "fate": ("name", "name"),
    "reach": ("name", "word"),
    "outlasts": ("name", "name"),
    "most": ("name", "whole"),
    "fewest": ("name", "whole"),
    "orders": ("name",),
    "needs": ("name",),
}


def read_name(text):
    """A name."""
    if not is_name(text):
        raise NoRow("a word is no name")
    return text


def read_whole(text):
    """A whole number in figures, without needless noughts."""
    if not 1 <= len(text) <= MOST_FIGURES or run_of(text, 0, FIGURES) != text:
        raise NoRow("a word is no number")
    if text[0] == "0" and text != "0":
        raise NoRow("a number has a needless nought")
    return int(text)


def read_place(text):
    """A place: whole numbers with dots between."""
    return tuple([read_whole(piece) for piece in text.split(".")])


def read_word(text):
    """One word of any signs."""
    if not text or any([sign in text for sign in " \t\n"]):
        raise NoRow("a word is missing, or there is one too many")
    return text


def read_text(text):
    """A text of any signs, perhaps nothing."""
    return text


READERS = {"name": read_name, "whole": read_whole, "place": read_place, "word": read_word, "text": read_text}


def read_piece(sort, text):
    """What a word of a sort stands for; NoRow where it is none."""
    reader = READERS[sort]
    return reader(text)


def read_row(thing):
    """The first word of a row, and what the further ones stand for; NoRow where a thing of any kind is no such row."""
    if not isinstance(thing, str):
        raise NoRow("a row is a text")
    word = thing.partition(" ")[0]
    if word not in FORMS:
        raise NoRow("no row begins so")
    form = FORMS[word]
    # No more cuts than words are wanted: a blank too many stays in the last one, where only a text may have it.
    pieces = thing.split(" ", len(form))[1:]
    if len(pieces) != len(form):
        raise NoRow("a word is missing")
    return word, [read_piece(sort, piece) for sort, piece in zip(form, pieces)]
