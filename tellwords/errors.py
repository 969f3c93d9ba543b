"""The errors of the program, one class for each kind of failure."""


class WordError(ValueError):
    """What all errors of the program but NoRule are."""


class BadBook(WordError):
    """A value is no book; error is what book_error tells of it."""

    def __init__(self, error):
        self.error = error


class Ringed(WordError):
    """The words of a plan hang on one another in a ring."""

    def __init__(self, ring):
        self.ring = ring


class TooLong(WordError):
    """The formula with this index has too many signs."""

    def __init__(self, index):
        self.index = index


class BadText(WordError):
    """A value is no text of what was to be read; place is where that shows."""

    def __init__(self, place):
        self.place = place


class Full(WordError):
    """As many edits stand as a shelf takes."""


class NothingToUndo(WordError):
    """No edit stands that could be taken back."""


class NothingToRedo(WordError):
    """No edit was taken back that could be done again."""


class NoWord(WordError):
    """A value is no word of the book."""

    def __init__(self, value):
        self.value = value


class BadTellers(WordError):
    """A value is no ascending tuple of other words of the book."""

    def __init__(self, value):
        self.value = value


class Loosened(WordError):
    """A word is no longer told; worlds is a pair of worlds that shows it."""

    def __init__(self, worlds):
        self.worlds = worlds


class NoRule(LookupError):
    """A value is no index of a rule."""

    def __init__(self, index):
        self.index = index
