"""Books, and what holds in all worlds that keep them."""

from tellwords.bounds import MAX_KINDS, MAX_LETTERS, MAX_RULES
from tellwords.formulas import formula_error, is_sentence
from tellwords.space import Space
from tellwords.worlds import holds, is_world

# A formula that holds of everything.
ALWAYS = ("and",)


def book_error(value):
    """What is wrong with value as a book; None if nothing is."""
    if not isinstance(value, tuple) or len(value) != 3:
        return (None, "book")
    kinds, letters, rules = value
    if not is_number_to(MAX_KINDS, kinds):
        return (None, "kinds")
    if not is_number_to(MAX_LETTERS, letters):
        return (None, "letters")
    if kinds == 0 and letters == 0:
        return (None, "words")
    if not isinstance(rules, tuple) or len(rules) > MAX_RULES:
        return (None, "rules")
    for index, rule in enumerate(rules):
        error = rule_error(kinds, letters, rule)
        if error is not None:
            return (index, error)
    return None


def is_number_to(most, value):
    """Whether value is an integer from 0 to most."""
    return isinstance(value, int) and not isinstance(value, bool) and 0 <= value <= most


def rule_error(kinds, letters, value):
    """What is wrong with value as a rule of a book; None if nothing is."""
    error = formula_error(kinds, letters, value)
    if error is None and not is_sentence(value):
        return "sentence"
    return error


def keeps(book, value):
    """Whether value is a world that keeps the book, with at most MAX_THINGS things."""
    kinds, letters, rules = book
    if not is_world(kinds, letters, value):
        return False
    return all([holds(value, rule) for rule in rules])


def frames(book):
    """The ascending tuple of the frames of all worlds of the book."""
    space = Space(book)
    return tuple(sorted([(space.yeses[at], space.sorts_in(mix)) for at, mix in space.frames_kept()]))


def follows(book, sentence):
    """Whether the sentence holds in all worlds of the book."""
    return alike(book, sentence, ALWAYS)


def against(book, sentence):
    """A world of the book in which the sentence does not hold; None if there is none."""
    parted = parting(book, sentence, ALWAYS)
    return None if parted is None else parted[0]


def alike(book, one, other):
    """Whether two formulas hold of the same things in all worlds of the book."""
    space = Space(book)
    return space.marks(one) == space.marks(other)


def parting(book, one, other):
    """A world of the book and the index of a thing of which just one of them holds, or None."""
    space = Space(book)
    for yes, marks, other_marks in zip(space.yeses, space.marks(one), space.marks(other)):
        unlike = marks ^ other_marks
        if unlike != 0:
            lowest = (unlike & -unlike).bit_length() - 1
            mix, at = divmod(lowest, space.width)
            things = space.sorts_in(mix)
            return ((yes, things), things.index(space.sorts[at]))
    return None
