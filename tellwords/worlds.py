"""Worlds, and what holds in them."""

from tellwords.bounds import MAX_THINGS
from tellwords.formulas import KINDS, folded, words_of


def is_world(kinds, letters, value):
    """Whether value is a world of a vocabulary with at most MAX_THINGS things."""
    if not isinstance(value, tuple) or len(value) != 2:
        return False
    yes, things = value
    if not is_ascending_of(words_of(0, letters), yes):
        return False
    if not isinstance(things, tuple) or not 1 <= len(things) <= MAX_THINGS:
        return False
    sort_words = words_of(kinds, 0)
    return all([is_ascending_of(sort_words, thing) for thing in things])


def is_ascending_of(words, value):
    """Whether value is an ascending tuple of some of the words, which are ascending."""
    if not isinstance(value, tuple):
        return False
    return value == tuple([word for word in words if word in value])


def holds(world, sentence):
    """Whether a sentence holds in a world."""
    yes, sorts = frame_of(world)
    return marks(yes, sorts, sentence) != 0


def holds_of(world, formula):
    """The ascending tuple of the indexes of the things of which a formula holds."""
    yes, sorts = frame_of(world)
    held = marks(yes, sorts, formula)
    held_sorts = [sort for at, sort in enumerate(sorts) if (held >> at) & 1]
    return tuple([at for at, thing in enumerate(world[1]) if thing in held_sorts])


def seen(world, tellers):
    """The world with only those letters and kinds left that are in tellers."""
    yes, things = world
    return (left_of(yes, tellers), tuple([left_of(thing, tellers) for thing in things]))


def left_of(words, tellers):
    """The words that are in tellers, too."""
    return tuple([word for word in words if word in tellers])


def frame_of(world):
    """The letters that are yes in a world, and its sorts in ascending order."""
    yes, things = world
    return (yes, tuple(sorted(set(things))))


def marks(yes, sorts, formula):
    """An integer with a bit for each of a frame's sorts: set if the formula holds of it.

    Things of one sort are alike to all formulas, so it is enough to look at the
    sorts, at most eight; and at all of them at once, so that a part within
    several "some" and "all" is worked out only once.
    """
    every = (1 << len(sorts)) - 1

    def of_word(word):
        if word in KINDS:
            return sum([1 << at for at, sort in enumerate(sorts) if word in sort])
        return every if word in yes else 0

    def spread(held):
        return every if held != 0 else 0

    return folded(formula, of_word, lambda head, parts: joined(head, every, parts, spread))


def joined(head, every, parts, spread):
    """The marks of a formula with this first item, by those of its parts.

    Marks are integers whose bits stand for sorts in frames, every having all
    the bits; spread(marks) has all bits of the frames of which marks have one.
    """
    if head == "not":
        return every - parts[0]
    if head == "some":
        return spread(parts[0])
    if head == "all":
        return every - spread(every - parts[0])
    return all_of(every, parts) if head == "and" else any_of(parts)


def all_of(every, parts):
    """The marks that are set in all of the parts."""
    both = every
    for part in parts:
        both = both & part
    return both


def any_of(parts):
    """The marks that are set in at least one of the parts."""
    either = 0
    for part in parts:
        either = either | part
    return either
