"""Least lots of words that tell a word, or all words, and of rules that make them tell it."""

from tellwords.formulas import words_of
from tellwords.space import Sight, Space, lots_of
from tellwords.telling import tells


def least_tellers(book, word):
    """The ascending tuple of all least tuples of other words by which word is told."""
    space = Space(book)
    others = left_out(words_of_book(book), word)
    return least([lot for lot in lots_of(others) if tells(space, word, lot)])


def least_lots(book):
    """The ascending tuple of all least tuples of words that tell all other words."""
    space = Space(book)
    words = words_of_book(book)
    return least([lot for lot in lots_of(words) if tells_all(space, words, lot)])


def tells_all(space, words, lot):
    """Whether a lot of the words tells each word that is not in it."""
    return all([tells(space, word, lot) for word in words if word not in lot])


def loose(book):
    """The ascending tuple of the words that are not told by all other words."""
    space = Space(book)
    words = words_of_book(book)
    return tuple([word for word in words if not tells(space, word, left_out(words, word))])


def free_words(book):
    """The ascending tuple of the words that may be anything in the worlds of the book."""
    space = Space(book)
    everywhere = Space((book[0], book[1], ()))
    words = words_of_book(book)
    sights = [(word, Sight(space, left_out(words, word))) for word in words]
    return tuple([word for word, sight in sights if is_whole(space, everywhere, sight)])


def is_whole(space, everywhere, sight):
    """Whether the book has either all frames or none of those that are seen alike.

    A change of the one word that is not seen leads from a world of a frame to
    worlds of all frames that are seen alike, if it has two things of each sort.
    """
    kept = many_seen(space, sight)
    there = many_seen(everywhere, sight)
    return all([kept[look] == there[look] for look in list(kept)])


def many_seen(space, sight):
    """For each frame that is seen, of how many frames of the space it is seen."""
    found = {}
    for frame in space.frames_kept():
        look = sight.of_frame(frame)
        found[look] = found.get(look, 0) + 1
    return found


def reasons(book, word, tellers):
    """The ascending tuple of all least tuples of indexes of rules that make word told."""
    return least(lots_of_rules(book, word, tellers))


def fewest_dropped(book, word, tellers):
    """The first of the shortest tuples of indexes of rules without which word is not told."""
    telling = lots_of_rules(book, word, tellers)
    indexes = indexes_of_rules(book)
    # There is one: without any rules no word is told. The empty one comes first.
    fitting = [
        dropped
        for dropped in sorted(lots_of(indexes), key=len)
        if tuple([index for index in indexes if index not in dropped]) not in telling
    ]
    return fitting[0]


def lots_of_rules(book, word, tellers):
    """The list of all ascending tuples of indexes of rules that alone make word told."""
    kinds, letters, rules = book
    found = []
    for lot in lots_of(indexes_of_rules(book)):
        space = Space((kinds, letters, tuple([rules[index] for index in lot])))
        if tells(space, word, tellers):
            found.append(lot)
    return found


def indexes_of_rules(book):
    """The ascending tuple of the indexes of the rules."""
    return tuple(range(len(book[2])))


def words_of_book(book):
    """The ascending tuple of the words of a book."""
    return words_of(book[0], book[1])


def left_out(lot, item):
    """The lot without the item."""
    return tuple([other for other in lot if other != item])


def least(lots):
    """The tuple of those lots that are no more among lots with any one item left out."""
    return tuple([lot for lot in lots if not any([left_out(lot, item) in lots for item in lot])])
