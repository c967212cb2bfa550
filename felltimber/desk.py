"""The desk: keeps books and plays by names, and answers rows of words."""

from felltimber.books import Book
from felltimber.booktexts import read_book, show_book
from felltimber.deskrows import read_row
from felltimber.duels import outlasts
from felltimber.errors import Endless, NoName
from felltimber.falls import fallen
from felltimber.fewests import fewest_falls
from felltimber.grovetexts import read_grove, show_grove
from felltimber.laddertexts import read_ladder, show_ladder
from felltimber.mosts import most_falls
from felltimber.orders import orders
from felltimber.plays import Play
from felltimber.ranks import own_rank, rank
from felltimber.reaches import fall_to
from felltimber.sorts import sort_needed


def book_of(kept, name):
    """The book that is kept by a name; NoName where none is."""
    thing = kept.get(name)
    if not isinstance(thing, Book):
        raise NoName("no book is kept by the name")
    return thing


def play_of(kept, name):
    """The play that is kept by a name; NoName where none is."""
    thing = kept.get(name)
    if not isinstance(thing, Play):
        raise NoName("no play is kept by the name")
    return thing


def keep_book(kept, words):
    """Keeps a book by a name."""
    name, text = words
    kept[name] = read_book(text)
    return "ok"


def keep_play(kept, words):
    """Keeps a play on a book by a name."""
    name, base, text = words
    book = book_of(kept, base)
    kept[name] = Play(book, read_grove(text))
    return "ok"


def show_kept(kept, words):
    """The text of a book, or of what stands in a play."""
    thing = kept.get(words[0])
    if isinstance(thing, Book):
        return show_book(thing)
    return show_grove(play_of(kept, words[0]).grove())


def do_fall(kept, words):
    """Does a fall in a play; the text of what stands then."""
    name, place, rule, number = words
    play = play_of(kept, name)
    play.fall(place, rule, number)
    return show_grove(play.grove())


def do_back(kept, words):
    """Takes the last fall of a play back; the text of what stands then."""
    return show_grove(play_of(kept, words[0]).back())


def do_again(kept, words):
    """Does the fall of a play again that was taken back last; the text of what stands then."""
    return show_grove(play_of(kept, words[0]).again())


def tell_rank(kept, words):
    """The text of the rank of what stands in a play."""
    play = play_of(kept, words[0])
    return show_ladder(rank(play.book, play.grove()))


def tell_fate(kept, words):
    """Whether a kind of a book is endless, or else the text of its own rank."""
    name, kind = words
    book = book_of(kept, name)
    try:
        return show_ladder(own_rank(book, kind))
    except Endless:
        return "endless"


def tell_reach(kept, words):
    """The text of what stands in a play behind a fall that reaches a ladder; the play stays as it is."""
    name, text = words
    play = play_of(kept, name)
    place, rule, number = fall_to(play.book, play.grove(), read_ladder(text))
    return show_grove(fallen(play.book, play.grove(), place, rule, number)[0])


def tell_outlasts(kept, words):
    """Whether the hand of the first play, beginning, outlasts the other's."""
    name, other = words
    play = play_of(kept, name)
    against = play_of(kept, other)
    return "yes" if outlasts(play.book, play.grove(), against.book, against.grove()) else "no"


def tell_most(kept, words):
    """The most falls of what stands in a play."""
    name, bound = words
    play = play_of(kept, name)
    return str(most_falls(play.book, play.grove(), bound))


def tell_fewest(kept, words):
    """The fewest falls of what stands in a play."""
    name, bound = words
    play = play_of(kept, name)
    return str(fewest_falls(play.book, play.grove(), bound))


def tell_orders(kept, words):
    """The orders of what stands in a play."""
    return str(orders(play_of(kept, words[0]).grove()))


def tell_needs(kept, words):
    """The sort that a book needs."""
    return sort_needed(book_of(kept, words[0]))[0]


DEEDS = {
    "book": keep_book,
    "grove": keep_play,
    "show": show_kept,
    "fall": do_fall,
    "back": do_back,
    "again": do_again,
    "rank": tell_rank,
    "fate": tell_fate,
    "reach": tell_reach,
    "outlasts": tell_outlasts,
    "most": tell_most,
    "fewest": tell_fewest,
    "orders": tell_orders,
    "needs": tell_needs,
}


class Desk:
    """Books and plays by their names."""

    def __init__(self):
        self.kept = {}

    def say(self, row):
        """The answer to a row; NoRow, then NoName, then what the texts refuse, then what the functions refuse."""
        word, words = read_row(row)
        deed = DEEDS[word]
        return deed(self.kept, words)
