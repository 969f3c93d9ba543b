"""How many worlds a book has, and how many are seen in them."""

from math import comb

from tellwords.formulas import words_of
from tellwords.space import Sight, Space


def count_worlds(book, many):
    """How many worlds of the book have so many things."""
    return count_seen(book, words_of(book[0], book[1]), many)


def count_seen(book, tellers, many):
    """How many unlike worlds are seen by tellers in the worlds of the book with so many things."""
    if many < 1:
        return 0
    space = Space(book)
    sight = Sight(space, tellers)
    # Of each sort that is seen, as many sorts are seen as of the one without kinds.
    most = sight.sort_seen.count(0)
    times = {}
    for _, stock in stocks_seen(space, sight, most):
        # How the sorts are called does not matter for the number of ways.
        shape = tuple(sorted(stock))
        times[shape] = times.get(shape, 0) + 1
    return sum([times[shape] * ways(shape, most, many) for shape in list(times)])


def stocks_seen(space, sight, most):
    """The list of what is seen of letters and of the number of things of each sort.

    A *stock* is a tuple with a number for each sort: so many things are seen as
    this sort, or, if the number is most, so many or more. A world with more
    than most things that are seen alike can have all sorts that are seen so.
    """
    needed = {}
    for at, mix in space.frames_kept():
        needs = [0] * space.width
        for sort_at, seen_at in enumerate(sight.sort_seen):
            needs[seen_at] += (mix >> sort_at) & 1
        needed[(sight.yes_seen[at], tuple(needs))] = True
    found = {}
    for yes, needs in list(needed):
        for stock in stocks_with(needs, most):
            found[(yes, stock)] = True
    return list(found)


def stocks_with(needs, most):
    """The list of all stocks of the same sorts that have at least what is needed of each."""
    found = [()]
    for need in needs:
        last = most if need > 0 else 0
        found = [(*stock, number) for stock in found for number in range(need, last + 1)]
    return found


def ways(stock, most, many):
    """In how many ways so many things, told apart, can be seen as a stock tells."""
    # By number of things: in how many ways these can be of the sorts gone through.
    found = [1] + [0] * many
    for number in [each for each in stock if each > 0]:
        found = [ways_with(found, number, most, placed) for placed in range(many + 1)]
    return found[many]


def ways_with(found, number, most, placed):
    """In how many ways so many things can be of the sorts gone through and of one more."""
    last = placed if number == most else min(number, placed)
    return sum([comb(placed, chosen) * found[placed - chosen] for chosen in range(number, last + 1)])
