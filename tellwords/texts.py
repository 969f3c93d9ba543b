"""Texts of formulas and books, written and read."""

from tellwords.bounds import MAX_KINDS, MAX_LETTERS, MAX_SIGNS
from tellwords.books import book_error
from tellwords.errors import BadText, TooLong
from tellwords.formulas import folded, signs, words_of

JOINING = ("and", "or")
# None of these is the beginning of another one: so a head ends where it is one of them.
HEADS = ("all", "and", "not", "or", "some")


def formula_text(formula):
    """The text of a formula."""
    return folded(
        formula,
        lambda word: word,
        lambda head, parts: "[" + " ".join([head, *parts]) + "]",
    )


def book_text(book):
    """The text of a book."""
    kinds, letters, rules = book
    return "\n".join([vocabulary_text(kinds, letters), *[formula_text(rule) for rule in rules]])


def vocabulary_text(kinds, letters):
    """The first line of the text of a book."""
    return f"{kinds} {letters}"


def read_formula(kinds, letters, value):
    """The formula of a vocabulary whose text value is."""
    if not isinstance(value, str):
        raise BadText(-1)
    reader = Reader(words_of(kinds, letters))
    for place, character in enumerate(value):
        if not reader.takes(character):
            raise BadText(place)
    if reader.formula is None:
        raise BadText(len(value))
    if signs(reader.formula) > MAX_SIGNS:
        raise TooLong(0)
    return reader.formula


class Reader:
    """Reads the text of a formula in some words, character by character.

    What was taken is the beginning of such a text, till a character is not
    taken: whatever stands in it can be brought to an end by words and "]".
    """

    def __init__(self, words):
        self.words = words
        # The formula that was read; None till its text ends.
        self.formula = None
        # The tuples that have begun, as lists, the innermost one last.
        self.nodes = []
        # Whether a formula has to begin here.
        self.awaiting = True

    def takes(self, character):
        """Takes the next character and returns True, if some text goes on so; else False."""
        if self.formula is not None:
            return False
        if self.awaiting:
            return self.begins(character)
        node = self.nodes[-1]
        if node[0] in HEADS:
            return self.goes_on(node, character)
        node[0] = node[0] + character
        return any([head.startswith(node[0]) for head in HEADS])

    def begins(self, character):
        """Takes the first character of a formula, if it is one."""
        if character == "[":
            self.nodes.append([""])
            self.awaiting = False
            return True
        if character not in self.words:
            return False
        self.end(character)
        return True

    def goes_on(self, node, character):
        """Takes what comes behind the head or behind a part of a tuple, if it may come there."""
        joining = node[0] in JOINING
        if character == " " and (joining or len(node) == 1):
            self.awaiting = True
            return True
        if character == "]" and (joining or len(node) == 2):
            self.nodes.pop()
            self.end(tuple(node))
            return True
        return False

    def end(self, formula):
        """Puts a formula that was read where it belongs."""
        self.awaiting = False
        if len(self.nodes) > 0:
            self.nodes[-1].append(formula)
        else:
            self.formula = formula


def read_book(value):
    """The book whose text value is."""
    if not isinstance(value, str):
        raise BadText(-1)
    lines = value.split("\n")
    fitting = [
        (kinds, letters)
        for kinds in range(MAX_KINDS + 1)
        for letters in range(MAX_LETTERS + 1)
        if vocabulary_text(kinds, letters) == lines[0]
    ]
    if len(fitting) == 0:
        raise BadText(0)
    kinds, letters = fitting[0]
    book = (kinds, letters, tuple([read_rule(kinds, letters, line) for line in lines[1:]]))
    if book_error(book) is not None:
        raise BadText(0)
    return book


def read_rule(kinds, letters, line):
    """The formula whose text a line of the text of a book is."""
    try:
        return read_formula(kinds, letters, line)
    except (BadText, TooLong):
        raise BadText(0) from None
