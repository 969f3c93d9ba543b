"""Point 7: least lots of words and of rules."""

import unittest

from tellwords.lots import (
    fewest_dropped, free_words, least_lots, least_tellers, loose, reasons,
)
from tests.helpers import (
    all_frames, all_worlds, drawn, frames_by_things, iff, keeps_by_things, seen_frame, some_book, soon, subsets,
    told_by_frames, vocabularies, words_in_order,
)

# The book of the document's example for telling, whole.
FULL = (2, 1, (("all", ("or", ("not", "A"), "B")), ("or", ("not", "p"), ("all", "A")),
               ("or", "p", ("all", ("not", "A")))))

NO_WORLD = (1, 1, (("all", "A"), ("some", ("not", "A"))))


def others_of(words, word):
    return tuple(other for other in words if other != word)


def minimal(lots):
    """The ascending tuple of the lots that are no longer among them without any one item."""
    found = set(lots)
    return tuple(sorted(lot for lot in found if not any(others_of(lot, item) in found for item in lot)))


def least_tellers_by_frames(frames, words, word):
    return minimal(lot for lot in subsets(others_of(words, word)) if told_by_frames(frames, word, lot))


def least_lots_by_frames(frames, words):
    return minimal(lot for lot in subsets(words)
                   if all(told_by_frames(frames, word, lot) for word in words if word not in lot))


def free_by_frames(frames, book):
    words = words_in_order(book[0], book[1])
    free = []
    for word in words:
        looks = {seen_frame(frame, others_of(words, word)) for frame in frames}
        if all(frame in frames for frame in all_frames(book[0], book[1])
               if seen_frame(frame, others_of(words, word)) in looks):
            free.append(word)
    return tuple(free)


def changes(world, word):
    """All worlds that come from a world by changes of a word alone."""
    yes, things = world
    if word in ("p", "q"):
        turned = {*yes} ^ {word}
        return [(tuple(sorted(turned)), things)]
    found = [()]
    for thing in things:
        both = (tuple(sorted({*thing, word})), others_of(thing, word))
        found = [(*begun, one) for begun in found for one in both]
    return [(yes, changed) for changed in found]


def telling_rules(book, word, tellers):
    """The tuples of indexes of rules that alone make word told."""
    found = []
    for lot in subsets(range(len(book[2]))):
        less = (book[0], book[1], tuple(book[2][at] for at in lot))
        if told_by_frames(frames_by_things(less), word, tellers):
            found.append(lot)
    return found


def fewest_dropped_by_frames(book, word, tellers):
    indexes = tuple(range(len(book[2])))
    telling = telling_rules(book, word, tellers)
    if indexes not in telling:
        return ()
    fitting = [lot for lot in subsets(indexes)
               if tuple(at for at in indexes if at not in lot) not in telling]
    return min(fitting, key=lambda lot: (len(lot), lot))


class TestLeastTellers(unittest.TestCase):
    def test_ordinary(self):
        self.assertEqual(least_tellers(FULL, "A"), (("p",),))
        self.assertEqual(least_tellers(FULL, "p"), (("A",),))
        self.assertEqual(least_tellers(FULL, "B"), ())
        book = (3, 0, (iff("A", "B"), iff("B", "C")))
        self.assertEqual(least_tellers(book, "A"), (("B",), ("C",)))
        book = (3, 1, (iff("A", ("and", "B", "C")), iff("p", ("some", "A"))))
        self.assertEqual(least_tellers(book, "A"), (("B", "C"),))
        self.assertEqual(least_tellers(book, "p"), (("A",), ("B", "C")))

    def test_the_empty_lot_and_none(self):
        book = (2, 1, (("all", "A"), ("not", "p")))
        self.assertEqual(least_tellers(book, "A"), ((),))
        self.assertEqual(least_tellers(book, "p"), ((),))
        self.assertEqual(least_tellers(book, "B"), ())

    def test_without_rules(self):
        for kinds, letters in vocabularies():
            for word in words_in_order(kinds, letters):
                self.assertEqual(least_tellers((kinds, letters, ()), word), ())

    def test_without_a_world(self):
        for word in ("A", "p"):
            self.assertEqual(least_tellers(NO_WORLD, word), ((),))

    def test_one_word(self):
        self.assertEqual(least_tellers((1, 0, ()), "A"), ())
        self.assertEqual(least_tellers((1, 0, (("all", "A"),)), "A"), ((),))
        self.assertEqual(least_tellers((0, 1, ("p",)), "p"), ((),))

    def test_order(self):
        # Any two words tell the third one: all three are, or just one is.
        odd = ("or", ("and", "A", iff("B", "C")[1]), ("and", ("not", "A"), ("not", iff("B", "C")[1])))
        book = (3, 2, (("all", odd), iff("p", "q"), ("or", ("not", "q"), ("all", iff("A", "B")[1]))))
        self.assertEqual(least_tellers(book, "A"), (("B", "C"),))
        book = (3, 2, (("all", odd), iff("q", ("some", "A")), iff("p", "q")))
        self.assertEqual(least_tellers(book, "p"), (("A",), ("B", "C"), ("q",)))


class TestLeastLots(unittest.TestCase):
    def test_ordinary(self):
        self.assertEqual(least_lots(FULL), (("A", "B"), ("B", "p")))
        self.assertEqual(least_lots((2, 0, (iff("A", "B"),))), (("A",), ("B",)))
        self.assertEqual(least_lots((2, 1, (iff("A", "B"), iff("p", ("some", "A"))))), (("A",), ("B",)))

    def test_without_rules(self):
        for kinds, letters in vocabularies():
            self.assertEqual(least_lots((kinds, letters, ())), (words_in_order(kinds, letters),))

    def test_the_empty_lot(self):
        self.assertEqual(least_lots(NO_WORLD), ((),))
        self.assertEqual(least_lots((1, 1, (("all", "A"), "p"))), ((),))
        self.assertEqual(least_lots((0, 2, ("p", ("not", "q")))), ((),))
        self.assertEqual(least_lots((0, 2, ("p",))), (("q",),))

    def test_a_word_may_be_told_by_words_that_are_told(self):
        book = (3, 1, (iff("A", "B"), iff("B", "C"), iff("p", ("all", "C"))))
        self.assertEqual(least_lots(book), (("A",), ("B",), ("C",)))


class TestLooseAndFree(unittest.TestCase):
    def test_loose(self):
        self.assertEqual(loose(FULL), ("B",))
        self.assertEqual(loose(NO_WORLD), ())
        self.assertEqual(loose((3, 2, (iff("A", "C"), iff("p", "q")))), ("B",))
        self.assertEqual(loose((1, 1, (("or", "p", ("all", "A")),))), ("A", "p"))
        for kinds, letters in vocabularies():
            self.assertEqual(loose((kinds, letters, ())), words_in_order(kinds, letters))

    def test_free_words(self):
        self.assertEqual(free_words(FULL), ())
        self.assertEqual(free_words((3, 2, FULL[2])), ("C", "q"))
        self.assertEqual(free_words((1, 1, (("or", "p", ("all", "A")),))), ())
        self.assertEqual(free_words((1, 1, (("all", "A"),))), ("p",))
        self.assertEqual(free_words((1, 1, ("p",))), ("A",))

    def test_all_words_are_free(self):
        for kinds, letters in vocabularies():
            words = words_in_order(kinds, letters)
            self.assertEqual(free_words((kinds, letters, ())), words)
            self.assertEqual(free_words((kinds, letters, (("or",),))), words)
        self.assertEqual(free_words(NO_WORLD), ("A", "p"))

    def test_words_that_rules_name_in_vain(self):
        book = (2, 1, (("all", ("or", "A", ("not", "A"))), ("or", "p", ("not", "p"), ("some", "B"))))
        self.assertEqual(free_words(book), ("A", "B", "p"))
        self.assertEqual(free_words((2, 1, (("or", ("some", "A"), ("all", ("not", "A"))), "p"))), ("A", "B"))

    def test_a_word_may_be_loose_and_not_free(self):
        book = (1, 0, (("some", "A"),))
        self.assertEqual((loose(book), free_words(book)), (("A",), ()))
        # The change of all things at once leads to a world of the book, that of one thing does not.
        book = (1, 0, (("or", ("all", "A"), ("all", ("not", "A"))),))
        self.assertEqual((loose(book), free_words(book)), (("A",), ()))
        book = (2, 0, (("or", ("some", ("and", "A", "B")), ("some", ("and", ("not", "A"), "B"))),))
        self.assertEqual(free_words(book), ("A",))

    def test_free_by_changes_of_small_worlds(self):
        rng = drawn("changes")
        results = set()
        for turn in range(120):
            kinds, letters = [(1, 0), (1, 1), (2, 0), (1, 2), (2, 1)][turn % 5]
            book = some_book(rng, kinds, letters, 2)
            words = words_in_order(kinds, letters)
            # A change leads from a frame to another one with at most so many things.
            worlds = [world for world in all_worlds(kinds, letters, 2 ** kinds) if keeps_by_things(book, world)]
            kept = set(worlds)
            expected = tuple(word for word in words
                             if all(change in kept for world in worlds for change in changes(world, word)))
            results.add(len(expected))
            self.assertEqual(free_words(book), expected)
        self.assertGreater(len(results), 2)


class TestReasons(unittest.TestCase):
    def test_ordinary(self):
        self.assertEqual(reasons(FULL, "A", ("B", "p")), ((1, 2),))
        self.assertEqual(reasons(FULL, "p", ("A",)), ((1, 2),))
        self.assertEqual(reasons(FULL, "B", ("A", "p")), ())
        book = (3, 0, (iff("A", "B"), iff("B", "C"), iff("A", "C"), ("some", "A")))
        self.assertEqual(reasons(book, "A", ("B",)), ((0,), (1, 2)))
        self.assertEqual(reasons(book, "A", ("C",)), ((0, 1), (2,)))
        self.assertEqual(reasons(book, "A", ("B", "C")), ((0,), (2,)))

    def test_without_rules_and_without_a_world(self):
        self.assertEqual(reasons((2, 1, ()), "A", ("B", "p")), ())
        self.assertEqual(reasons(NO_WORLD, "p", ()), ((0, 1),))
        self.assertEqual(reasons(NO_WORLD, "A", ()), ((0,),))
        self.assertEqual(reasons((1, 1, (("or",),)), "A", ("p",)), ((0,),))

    def test_the_same_rule_six_times(self):
        book = (2, 1, ("p",) * 6)
        self.assertEqual(reasons(book, "p", ()), tuple((at,) for at in range(6)))
        self.assertEqual(fewest_dropped(book, "p", ()), (0, 1, 2, 3, 4, 5))
        self.assertEqual(reasons(book, "A", ("B",)), ())
        self.assertEqual(fewest_dropped(book, "A", ("B",)), ())

    def test_fewest_dropped(self):
        self.assertEqual(fewest_dropped(FULL, "A", ("B", "p")), (1,))
        self.assertEqual(fewest_dropped(FULL, "B", ("A", "p")), ())
        book = (3, 0, (iff("A", "B"), iff("B", "C"), iff("A", "C"), ("some", "A")))
        self.assertEqual(fewest_dropped(book, "A", ("B",)), (0, 1))
        self.assertEqual(fewest_dropped(book, "A", ("C",)), (0, 2))
        self.assertEqual(fewest_dropped(book, "A", ("B", "C")), (0, 2))
        book = (3, 0, (("some", "A"), iff("B", "C"), iff("A", "C"), iff("A", "B")))
        self.assertEqual(fewest_dropped(book, "A", ("B",)), (1, 3))
        self.assertEqual(fewest_dropped((2, 1, ()), "A", ("B", "p")), ())
        self.assertEqual(fewest_dropped(NO_WORLD, "p", ()), (0,))


class TestAgainstTheReference(unittest.TestCase):
    def check_words(self, book):
        words = words_in_order(book[0], book[1])
        frames = frames_by_things(book)
        self.assertEqual(least_lots(book), least_lots_by_frames(frames, words))
        self.assertEqual(free_words(book), free_by_frames(frames, book))
        expected = tuple(word for word in words if not told_by_frames(frames, word, others_of(words, word)))
        self.assertEqual(loose(book), expected)
        for word in words:
            self.assertEqual(least_tellers(book, word), least_tellers_by_frames(frames, words, word))

    def check_rules(self, book, word, tellers):
        self.assertEqual(reasons(book, word, tellers), minimal(telling_rules(book, word, tellers)))
        self.assertEqual(fewest_dropped(book, word, tellers), fewest_dropped_by_frames(book, word, tellers))

    def test_words(self):
        rng = drawn("words of books")
        for turn in range(60):
            kinds, letters = [(2, 1), (1, 2), (2, 2), (2, 0), (0, 2), (1, 1)][turn % 6]
            self.check_words(some_book(rng, kinds, letters))
        for letters in (0, 1):
            self.check_words(some_book(rng, 3, letters))

    def test_rules(self):
        rng = drawn("rules of books")
        for turn in range(80):
            kinds, letters = [(2, 1), (1, 2), (2, 0), (0, 2), (1, 1)][turn % 5]
            book = some_book(rng, kinds, letters, 6 if turn % 4 == 0 else 4)
            words = words_in_order(kinds, letters)
            word = rng.choice(words)
            self.check_rules(book, word, others_of(words, word))
            self.check_rules(book, word, rng.choice(subsets(others_of(words, word))))

    def test_large_books_are_quick(self):
        rng = drawn("large books")
        for _ in range(5):
            book = some_book(rng, 3, 2)
            book = (3, 2, (*book[2], *[("or", "p", ("not", "q"))] * 6)[:6])
            with soon(3):
                least_lots(book)
                loose(book)
                free_words(book)
                for word in ("A", "q"):
                    least_tellers(book, word)
                    others = others_of(("A", "B", "C", "p", "q"), word)
                    reasons(book, word, others)
                    fewest_dropped(book, word, others)


if __name__ == "__main__":
    unittest.main()
