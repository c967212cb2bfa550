"""The refusals of the program: each stands right under FellError."""


class FellError(ValueError):
    """Any refusal."""


class NoLadder(FellError):
    """A text that shows no ladder, or one beyond the bounds."""


class NoRest(FellError):
    """A ladder up to which there is no rest, for it is less."""


class NoGrove(FellError):
    """A list or a text of which no grove comes."""


class NoPlace(FellError):
    """A tuple that is no place where it is asked for one."""


class NoBook(FellError):
    """A list or a text of which no book comes."""


class NoKind(FellError):
    """A name that is none of a book's kinds."""

    def __init__(self, kind):
        self.kind = kind


class NoRule(FellError):
    """A thing that is no rule's number of the kind."""


class NoNumber(FellError):
    """A thing that is no whole number from 0 on."""


class TooGreat(FellError):
    """A grove that would be beyond the bound on groves."""


class NoRise(FellError):
    """A fall that can't be taken back."""


class NoFall(FellError):
    """A play that has no fall to take back or to do again."""


class Endless(FellError):
    """A kind that has no rank, for its falls need not end."""

    def __init__(self, kind):
        self.kind = kind


class NotEndless(FellError):
    """A kind whose falls end."""


class NoWorths(FellError):
    """A dict that gives no right worths to the kinds of a book."""


class NoDrop(FellError):
    """A ladder to which no drop leads, for it is not less."""


class NoReach(FellError):
    """A ladder that no fall reaches."""


class TooLong(FellError):
    """A number of falls or of trees beyond its bound."""


class NoRow(FellError):
    """A text that is no row that the desk knows."""


class NoName(FellError):
    """A name by which the desk keeps nothing of the wanted sort."""
