"""Shelves, which keep a book under edits."""

from tellwords.books import book_error, is_number_to
from tellwords.errors import (
    BadBook, BadTellers, Full, Loosened, NoRule, NothingToRedo, NothingToUndo, NoWord,
)
from tellwords.formulas import words_of
from tellwords.telling import pair, told, written
from tellwords.worlds import is_ascending_of


class Shelf:
    """A book under edits, which can be taken back and done again."""

    # MAX_EDITS: the value of a class has to be written out.
    LIMIT = 40

    def __init__(self, value):
        check_book(value)
        self._kinds, self._letters, self._rules = value
        # The rules as they were ahead of each edit that stands, the last one last.
        self._earlier = ()
        # The rules as they were behind each edit that was taken back, the last one last.
        self._later = ()

    @property
    def book(self):
        """The book as it is now."""
        return (self._kinds, self._letters, self._rules)

    @property
    def version(self):
        """The number of edits that stand."""
        return len(self._earlier)

    def add(self, value):
        """Puts a rule behind the others; returns the new version."""
        self._check_room()
        return self._edit((*self._rules, value))

    def drop(self, value):
        """Takes the rule with this index out; returns the new version."""
        self._check_room()
        self._check_index(value)
        return self._edit(self._rules[:value] + self._rules[value + 1:])

    def turn(self, index, value):
        """Puts value in the place of the rule with this index; returns the new version."""
        self._check_room()
        self._check_index(index)
        return self._edit(self._rules[:index] + (value,) + self._rules[index + 1:])

    def undo(self):
        """Takes back the last edit that stands; returns the version then."""
        if len(self._earlier) == 0:
            raise NothingToUndo()
        self._later = (*self._later, self._rules)
        self._rules = self._earlier[-1]
        self._earlier = self._earlier[:-1]
        return self.version

    def redo(self):
        """Does the edit again that was taken back last; returns the version then."""
        if len(self._later) == 0:
            raise NothingToRedo()
        self._earlier = (*self._earlier, self._rules)
        self._rules = self._later[-1]
        self._later = self._later[:-1]
        return self.version

    def told(self, word, tellers):
        """Whether word is told by tellers in the book as it is now."""
        check_words(self.book, word, tellers)
        return told(self.book, word, tellers)

    def written(self, word, tellers):
        """A writing-out of word by tellers in the book as it is now; None if there is none."""
        check_words(self.book, word, tellers)
        return written(self.book, word, tellers)

    def pair(self, word, tellers):
        """Two worlds of the book as it is now that show that word is not told, or None."""
        check_words(self.book, word, tellers)
        return pair(self.book, word, tellers)

    def twin(self):
        """A shelf with the same book and without edits."""
        return Shelf(self.book)

    def __len__(self):
        return len(self._rules)

    def __getitem__(self, at):
        self._check_index(at)
        return self._rules[at]

    def __contains__(self, x):
        return x in self._rules

    def __iter__(self):
        return iter(self._rules)

    def __eq__(self, other):
        # A firm shelf is a shelf, but of another class.
        return (
            isinstance(other, Shelf)
            and self.__class__.__name__ == other.__class__.__name__
            and self.book == other.book
        )

    def _check_room(self):
        """Raises Full if no more edits may stand."""
        if self.version >= self.LIMIT:
            raise Full()

    def _check_index(self, value):
        """Raises NoRule if value is no index of a rule."""
        if not is_number_to(len(self._rules) - 1, value):
            raise NoRule(value)

    def _check_next(self, book):
        """Raises what is against this book as the next one."""
        check_book(book)

    def _edit(self, rules):
        """Puts rules in the place of those that there are, as an edit; returns the new version."""
        self._check_next((self._kinds, self._letters, rules))
        self._earlier = (*self._earlier, self._rules)
        self._later = ()
        self._rules = rules
        return self.version


class FirmShelf(Shelf):
    """A shelf with a word that is told by its tellers, whatever the edits."""

    def __init__(self, value, word, tellers):
        super().__init__(value)
        check_words(value, word, tellers)
        check_told(value, word, tellers)
        self._word = word
        self._tellers = tellers

    @property
    def word(self):
        """The word that is told."""
        return self._word

    @property
    def tellers(self):
        """The words that tell it."""
        return self._tellers

    def twin(self):
        """A shelf with the same book, word and tellers and without edits."""
        return FirmShelf(self.book, self.word, self.tellers)

    def __eq__(self, other):
        return (
            isinstance(other, FirmShelf)
            and self.book == other.book
            and self.word == other.word
            and self.tellers == other.tellers
        )

    def _check_next(self, book):
        """Raises what is against this book as the next one: also that word is not told in it."""
        check_book(book)
        check_told(book, self.word, self.tellers)


def check_book(value):
    """Raises BadBook if value is no book."""
    error = book_error(value)
    if error is not None:
        raise BadBook(error)


def check_words(book, word, tellers):
    """Raises NoWord or BadTellers if these are no word of the book and tellers of it."""
    words = words_of(book[0], book[1])
    if word not in words:
        raise NoWord(word)
    if not is_ascending_of([other for other in words if other != word], tellers):
        raise BadTellers(tellers)


def check_told(book, word, tellers):
    """Raises Loosened if word is not told by tellers in the worlds of the book."""
    worlds = pair(book, word, tellers)
    if worlds is not None:
        raise Loosened(worlds)
