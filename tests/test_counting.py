"""Point 9: how many worlds a book has, and how many are seen in them."""

import unittest
from collections import Counter
from math import comb

from tellwords.counting import count_seen, count_worlds
from tests.helpers import (
    LETTERS, all_worlds, drawn, frames_by_things, keeps_by_things, some_book, soon, sorts_of, subsets,
    vocabularies, words_in_order, words_left,
)

# The book of the document's example.
BOOK = (1, 0, (("some", "A"), ("some", ("not", "A"))))

NO_WORLDS = (
    (1, 1, (("all", "A"), ("some", ("not", "A")))), (0, 1, ("p", ("not", "p"))), (3, 2, (("or",),)),
    (2, 0, (("some", ("and", "A", "B")), ("all", ("not", "A")))), (0, 2, (("not", ("and",)), "p")),
)


def onto(many, sorts):
    """In how many ways so many things can be of just so many sorts."""
    return sum((-1) ** left * comb(sorts, left) * (sorts - left) ** many for left in range(sorts + 1))


def worlds_by_frames(frames, many):
    """How many worlds have these frames, by the numbers of their sorts."""
    return sum(onto(many, len(stock)) for _, stock in frames)


def worlds_of(book, most):
    """The worlds of a book with at most so many things, by looking at each one."""
    return [world for world in all_worlds(book[0], book[1], most) if keeps_by_things(book, world)]


def seen_of_worlds(worlds, tellers, many):
    """How many unlike worlds are seen in those of the worlds with so many things."""
    return len({(words_left(yes, tellers), tuple(words_left(thing, tellers) for thing in things))
                for yes, things in worlds if len(things) == many})


def demands_of(frames, tellers):
    """For each yes that is seen, how many things of which seen sorts a frame wants at least."""
    found = {}
    for yes, stock in frames:
        demand = Counter(words_left(sort, tellers) for sort in stock)
        found.setdefault(words_left(yes, tellers), set()).add(frozenset(demand.items()))
    return found


def seen_by_steps(frames, tellers, many):
    """How many unlike worlds are seen in those of these frames, by putting one thing behind another.

    Only how many things are seen of each sort is kept, and of more than can be wanted no more.
    """
    kinds = [word for word in ("A", "B", "C") if word in tellers]
    sorts = sorted(subsets(kinds))
    most = 2 ** (3 - len(kinds))
    numbers = Counter({(0,) * len(sorts): 1})
    for _ in range(many):
        following = Counter()
        for had, number in numbers.items():
            for at in range(len(sorts)):
                following[(*had[:at], min(had[at] + 1, most), *had[at + 1:])] += number
        numbers = following
    counted = 0
    for demands in demands_of(frames, tellers).values():
        for had, number in numbers.items():
            stock = {sort: times for sort, times in zip(sorts, had) if times > 0}
            counted += number * any(fits(dict(demand), stock) for demand in demands)
    return counted


def fits(demand, stock):
    """Whether the stock has just the sorts that are wanted, and enough of each."""
    return demand.keys() == stock.keys() and all(stock[sort] >= demand[sort] for sort in demand)


class TestExamples(unittest.TestCase):
    def test_the_example(self):
        self.assertEqual(count_worlds(BOOK, 1), 0)
        self.assertEqual(count_worlds(BOOK, 2), 2)
        self.assertEqual(count_seen(BOOK, (), 1), 0)
        self.assertEqual(count_seen(BOOK, (), 2), 1)

    def test_the_example_with_more_things(self):
        for many in range(1, 61):
            self.assertEqual(count_worlds(BOOK, many), 2 ** many - 2)
            self.assertEqual(count_seen(BOOK, ("A",), many), 2 ** many - 2)
            self.assertEqual(count_seen(BOOK, (), many), int(many > 1))

    def test_without_rules(self):
        for kinds, letters in vocabularies():
            book = (kinds, letters, ())
            for many in (1, 2, 3, 7, 8, 9, 59, 60):
                self.assertEqual(count_worlds(book, many), 2 ** letters * (2 ** kinds) ** many)
                for tellers in subsets(words_in_order(kinds, letters)):
                    yes = [word for word in tellers if word in LETTERS]
                    expected = 2 ** len(yes) * (2 ** (len(tellers) - len(yes))) ** many
                    self.assertEqual(count_seen(book, tellers, many), expected)

    def test_without_a_world(self):
        for book in NO_WORLDS:
            for many in range(1, 61):
                self.assertEqual(count_worlds(book, many), 0)
            for tellers in subsets(words_in_order(book[0], book[1])):
                for many in (1, 2, 3, 8, 60):
                    self.assertEqual(count_seen(book, tellers, many), 0)

    def test_without_kinds(self):
        book = (0, 2, (("or", "p", "q"),))
        for many in range(1, 61):
            self.assertEqual(count_worlds(book, many), 3)
            self.assertEqual([count_seen(book, tellers, many) for tellers in ((), ("p",), ("q",), ("p", "q"))],
                             [1, 2, 2, 3])

    def test_one_thing(self):
        book = (2, 1, (("some", ("and", "A", ("not", "B"))), ("or", "p", ("all", "A"))))
        self.assertEqual(count_worlds(book, 1), 2)
        self.assertEqual([count_seen(book, tellers, 1) for tellers in ((), ("A",), ("B",), ("p",), ("A", "B", "p"))],
                         [1, 1, 1, 2, 2])

    def test_views_that_few_things_do_not_allow(self):
        # Each sort is there, so each sort that is seen is seen of several things.
        for kinds in (1, 2, 3):
            rules = [("some", ("and", *[word if word in sort else ("not", word) for word in words_in_order(kinds, 0)]))
                     for sort in sorts_of(kinds)]
            book = (kinds, 1, (("and", *rules[:4]), ("and", *rules[4:])))
            for many in range(1, 12):
                self.assertEqual(count_worlds(book, many), 2 * onto(many, 2 ** kinds))
                self.assertEqual(count_seen(book, (), many), int(many >= 2 ** kinds))
                for word in words_in_order(kinds, 0):
                    half = 2 ** (kinds - 1)
                    expected = sum(comb(many, ones) for ones in range(half, many - half + 1))
                    self.assertEqual(count_seen(book, (word,), many), expected)
                    self.assertEqual(count_seen(book, (word, "p"), many), 2 * expected)

    def test_a_view_of_several_frames_is_counted_once(self):
        # Either one thing that is no A is seen as a B, or just two things are.
        one = ("all", ("or", "A", ("not", "B")))
        two = ("and", ("some", ("and", "A", "B")), ("some", ("and", ("not", "A"), "B")))
        book = (2, 1, (("or", ("and", "p", one), ("and", ("not", "p"), two)),))
        worlds = worlds_of(book, 5)
        for tellers in subsets(("A", "B", "p")):
            for many in range(1, 6):
                self.assertEqual(count_seen(book, tellers, many), seen_of_worlds(worlds, tellers, many))


class TestAgainstReferences(unittest.TestCase):
    def test_all_small_worlds(self):
        rng = drawn("counted")
        results = set()
        for turn in range(66):
            kinds, letters = vocabularies()[turn % len(vocabularies())]
            book = some_book(rng, kinds, letters, 3)
            words = words_in_order(kinds, letters)
            most = (8, 6, 4, 2)[kinds]
            worlds = worlds_of(book, most)
            for many in range(1, most + 1):
                self.assertEqual(count_worlds(book, many), seen_of_worlds(worlds, words, many))
                for tellers in subsets(words):
                    expected = seen_of_worlds(worlds, tellers, many)
                    results.add(expected)
                    self.assertEqual(count_seen(book, tellers, many), expected)
        self.assertGreater(len(results), 12)

    def test_many_things(self):
        rng = drawn("many things")
        for turn in range(24):
            kinds, letters = [(3, 0), (2, 1), (3, 1), (2, 2), (1, 1), (3, 2)][turn % 6]
            book = some_book(rng, kinds, letters, 3)
            words = words_in_order(kinds, letters)
            frames = frames_by_things(book)
            for many in (rng.randint(1, 12), rng.randint(13, 60)):
                self.assertEqual(count_worlds(book, many), worlds_by_frames(frames, many))
                for tellers in {(), words[::2], rng.choice(subsets(words))}:
                    self.assertEqual(count_seen(book, tellers, many), seen_by_steps(frames, tellers, many))

    def test_three_kinds_and_all_lots_of_words(self):
        rng = drawn("all lots")
        for _ in range(2):
            book = some_book(rng, 3, 1, 2)
            frames = frames_by_things(book)
            for tellers in subsets(words_in_order(3, 1)):
                for many in (1, 2, 3, 5, 9, 21):
                    self.assertEqual(count_seen(book, tellers, many), seen_by_steps(frames, tellers, many))


class TestQuick(unittest.TestCase):
    def test_large_numbers(self):
        book = (3, 2, (("some", "A"),))
        for tellers in subsets(words_in_order(3, 2)):
            yes = 2 ** len([word for word in tellers if word in LETTERS])
            seen_kinds = [word for word in tellers if word not in LETTERS]
            expected = yes * (2 ** len(seen_kinds)) ** 60
            if "A" in tellers:
                expected -= yes * (2 ** (len(seen_kinds) - 1)) ** 60
            with soon(2):
                self.assertEqual(count_seen(book, tellers, 60), expected)
        with soon(2):
            self.assertEqual(count_worlds(book, 60), 4 * (8 ** 60 - 4 ** 60))

    def test_somewhat_beyond(self):
        with soon(2):
            self.assertEqual(count_worlds((3, 2, ()), 61), 4 * 8 ** 61)
            self.assertEqual(count_seen((3, 2, ()), ("A", "q"), 100), 2 * 2 ** 100)
        for many in (0, -1, -2):
            self.assertEqual(count_worlds((1, 1, ()), many), 0)
            self.assertEqual(count_seen((1, 1, ()), (), many), 0)


if __name__ == "__main__":
    unittest.main()
