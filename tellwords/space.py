"""All frames of the worlds of a book at once.

What holds of a thing goes by the thing's sort and by the frame of its world
alone, and there are only some frames: so a book is decided by looking at them,
however many things its worlds have.

A *mix* is some sorts as an integer, which has a bit for each of them. A frame
stands here as a pair (at, mix): the index of its yes among all of them, and the
mix of its sorts. *Marks* are a tuple with an integer for each yes; its bit
mix * width + at stands for the sort with index at in the frame with this mix.
(One integer for all of them would do, but would be long.)
"""

from tellwords.formulas import KINDS, folded, words_of
from tellwords.worlds import joined, left_of


def lots_of(items):
    """The ascending tuple of all ascending tuples of some of the items, which are ascending."""
    found = [()]
    for item in items:
        found = [*found, *[(*lot, item) for lot in found]]
    return tuple(sorted(found))


class Space:
    """The frames of the worlds of a book, and what holds in them."""

    def __init__(self, book):
        kinds, letters, rules = book
        self.sorts = lots_of(words_of(kinds, 0))
        self.yeses = lots_of(words_of(0, letters))
        self.width = len(self.sorts)
        mixes = range(1, 1 << self.width)
        self.starts = sum([1 << (mix * self.width) for mix in mixes])
        self.within = (sum([mix << (mix * self.width) for mix in mixes]),) * len(self.yeses)
        for rule in rules:
            self.within = self.marks(rule)

    def marks(self, formula):
        """The marks of where a formula holds in the worlds of the book."""
        return folded(
            formula,
            lambda word: self.marks_of_word(word),
            lambda head, parts: self.marks_of_parts(head, parts),
        )

    def marks_of_word(self, word):
        """The marks of where a word holds."""
        mixes = self.mixes_with(word)
        return tuple([within & (mix * self.starts) for within, mix in zip(self.within, mixes)])

    def mixes_with(self, word):
        """For each yes the mix of all sorts of things of which the word holds."""
        if word in KINDS:
            mix = sum([1 << at for at, sort in enumerate(self.sorts) if word in sort])
            return [mix] * len(self.yeses)
        every = (1 << self.width) - 1
        return [every if word in yes else 0 for yes in self.yeses]

    def marks_of_parts(self, head, parts):
        """The marks of a tuple with this first item, by the marks of its parts."""
        return tuple([self.joined_within(head, at, parts) for at in range(len(self.within))])

    def joined_within(self, head, at, parts):
        """What marks_of_parts tells for the yes with this index."""
        within = self.within[at]
        return joined(
            head, within, [part[at] for part in parts], lambda held: within & self.spread(held)
        )

    def spread(self, held):
        """An integer of marks with all bits of the frames of which held has a bit."""
        step = self.width // 2
        while step > 0:
            held = held | (held >> step)
            step = step // 2
        firsts = held & self.starts
        return (firsts << self.width) - firsts

    def frames_kept(self):
        """The list of the frames of the worlds of the book."""
        return [
            (at, mix)
            for at, within in enumerate(self.within)
            for mix in range(1, 1 << self.width)
            if (within >> (mix * self.width)) & mix != 0
        ]

    def sorts_in(self, mix):
        """The ascending tuple of the sorts of a mix."""
        return tuple([sort for at, sort in enumerate(self.sorts) if (mix >> at) & 1 == 1])


class Sight:
    """What is seen by some words, the tellers, of the frames of a space."""

    def __init__(self, space, tellers):
        self.yes_seen = [space.yeses.index(left_of(yes, tellers)) for yes in space.yeses]
        self.sort_seen = [space.sorts.index(left_of(sort, tellers)) for sort in space.sorts]
        self.mix_seen = [0]
        for at in self.sort_seen:
            self.mix_seen = [*self.mix_seen, *[mix | (1 << at) for mix in self.mix_seen]]

    def of_frame(self, frame):
        """What is seen of a frame: a frame, too."""
        at, mix = frame
        return (self.yes_seen[at], self.mix_seen[mix])
