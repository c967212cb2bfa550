"""What several modules share: whole numbers, names, rows of pairs, and the bounds and runs of texts."""

FIGURES = "0123456789"
LETTERS = "abcdefghijklmnopqrstuvwxyz"
LONGEST_NAME = 8

MOST_FIGURES = 60
MOST_PARTS = 60
MOST_DEEP = 12


def is_whole(thing):
    """Whether a thing of any kind is a whole number: True and False are none."""
    return isinstance(thing, int) and not isinstance(thing, bool)


def is_many(thing):
    """Whether a thing of any kind is a whole number from 1 on."""
    return is_whole(thing) and thing >= 1


def is_name(thing):
    """Whether a thing of any kind is a text of one to eight small letters."""
    if not isinstance(thing, str) or not 1 <= len(thing) <= LONGEST_NAME:
        return False
    return run_of(thing, 0, LETTERS) == thing


def is_rising(things):
    """Whether each thing of a list is greater than the one ahead of it."""
    return all([low < high for low, high in zip(things, things[1:])])


def joined(pairs):
    """A tuple of sorted pairs (thing, many), the many of like things added."""
    row = []
    for thing, many in pairs:
        if row and row[-1][0] == thing:
            row[-1] = (thing, row[-1][1] + many)
        else:
            row.append((thing, many))
    return tuple(row)


def many_at(pairs, thing):
    """The many of the pair of this thing, 0 where there is none."""
    return sum([many for other, many in pairs if other == thing])


def run_of(text, at, signs):
    """The longest piece of a text from a place on that has these signs alone; perhaps nothing."""
    end = at
    while end < len(text) and text[end] in signs:
        end += 1
    return text[at:end]


def sign_at(text, at):
    """The sign at a place of a text, or the empty text at its end."""
    return text[at:at + 1]
