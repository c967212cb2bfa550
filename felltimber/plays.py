"""Plays: a grove on a book, and the falls done on it."""

from felltimber.books import check_kinds
from felltimber.errors import NoFall
from felltimber.falls import fallen


class Play:
    """What stood, fall by fall, and what was taken back."""

    def __init__(self, book, grove):
        check_kinds(book, grove)
        self.book = book
        # One grove more than there are falls done: the first stood ahead of them all.
        self.stood = [grove]
        self.done = []
        # Pairs of a fall and the grove behind it, the last one taken back at the end.
        self.undone = []

    def grove(self):
        """What stands now."""
        return self.stood[-1]

    def falls(self):
        """The falls that led from the first grove to this one."""
        return list(self.done)

    def fall(self, place, rule, number):
        """Does a fall on what stands, and tells the place that fallen tells; refused as that is."""
        behind, changed = fallen(self.book, self.grove(), place, rule, number)
        self.stood.append(behind)
        self.done.append((place, rule, number))
        self.undone = []
        return changed

    def back(self):
        """Takes the last fall back, and tells the grove then; NoFall where none is done."""
        if not self.done:
            raise NoFall("no fall is done")
        self.undone.append((self.done.pop(), self.stood.pop()))
        return self.grove()

    def again(self):
        """Does the fall again that was taken back last, and tells the grove then; NoFall where there is none."""
        if not self.undone:
            raise NoFall("no fall is taken back")
        row, behind = self.undone.pop()
        self.done.append(row)
        self.stood.append(behind)
        return behind
