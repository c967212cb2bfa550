"""The texts of books."""

from felltimber.books import Book
from felltimber.errors import NoBook, NoGrove
from felltimber.grovetexts import read_grove, show_grove

BETWEEN_KINDS = "; "
AHEAD_OF_RULE = " > "
BETWEEN_GROVES = " / "
SPREADS = " *"


def show_book(book):
    """The text of a book."""
    return BETWEEN_KINDS.join([show_kind(book, name) for name in book.names()])


def show_kind(book, name):
    """The text of one kind: its name, whether it spreads, and its rules."""
    mark = SPREADS if book.spreads(name) else ""
    return name + mark + "".join([show_rule(rule) for rule in book.rules(name)])


def show_rule(rule):
    """The text of a rule, with the sign ahead of it."""
    once, each = rule
    return AHEAD_OF_RULE + show_grove(once) + BETWEEN_GROVES + show_grove(each)


def read_book(text):
    """The book that a text shows; NoBook where it shows none."""
    # No name and no grove's text holds one of the signs between, so a text is cut in one way alone,
    # and what each piece is read to has that very piece as its text.
    return Book([read_kind(piece) for piece in text.split(BETWEEN_KINDS)])


def read_kind(text):
    """The kind that a text shows, whatever its name is."""
    pieces = text.split(AHEAD_OF_RULE)
    head = pieces[0]
    spreading = head.endswith(SPREADS)
    name = head[:-len(SPREADS)] if spreading else head
    return name, spreading, [read_rule(piece) for piece in pieces[1:]]


def read_rule(text):
    """The rule that a text shows; NoBook where it shows none."""
    halves = text.split(BETWEEN_GROVES)
    if len(halves) != 2:
        raise NoBook("a rule has not two groves")
    try:
        return read_grove(halves[0]), read_grove(halves[1])
    except NoGrove:
        raise NoBook("a rule has a grove that is none") from None
