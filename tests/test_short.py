"""Point 8: the fewest signs that write a word out."""

import unittest

from tellwords.formulas import is_sentence, signs, words_in
from tellwords.short import fewest_signs, short
from tellwords.telling import is_written
from tests.helpers import (
    LETTERS, all_frames, drawn, frames_by_things, iff, some_book, some_formula, some_sentence, soon, subsets,
    vocabularies, words_in_order,
)

# The book of the document's example for telling, whole.
FULL = (2, 1, (("all", ("or", ("not", "A"), "B")), ("or", ("not", "p"), ("all", "A")),
               ("or", "p", ("all", ("not", "A")))))

NO_WORLD = (1, 1, (("all", "A"), ("some", ("not", "A"))))


class Spots:
    """All formulas in some words with at most five signs, none left out, and where each one holds.

    Where it holds is a set of pairs of a frame of the vocabulary and of a sort in it.
    """

    def __init__(self, kinds, letters, words):
        frames = all_frames(kinds, letters)
        self.every = frozenset((frame, sort) for frame in frames for sort in frame[1])
        self.of_frame = {frame: frozenset((frame, sort) for sort in frame[1]) for frame in frames}
        self.sized = [set()]
        # The rows of formulas with so many signs together: where all, and where any of them hold.
        rows = [{(self.every, frozenset(), True)}]
        for many in range(1, 6):
            found = {(self.of_word(word), word in LETTERS) for word in words} if many == 1 else set()
            for held, closed in self.sized[-1]:
                found.add((self.every - held, closed))
                found.add((self.some(held), True))
                found.add((self.every - self.some(self.every - held), True))
            for both, either, closed in rows[-1]:
                found |= {(both, closed), (either, closed)}
            self.sized.append(found)
            rows.append({(both & held, either | held, closed and other_closed)
                         for size in range(1, many + 1) for held, closed in self.sized[size]
                         for both, either, other_closed in rows[many - size]})

    def of_word(self, word):
        return frozenset((frame, sort) for frame, sort in self.every if word in frame[0] or word in sort)

    def some(self, held):
        return frozenset().union(*[self.of_frame[frame] for frame in {frame for frame, _ in held}])

    def fewest(self, book, word):
        """The least number of signs of a writing-out; None if none of these is one."""
        frames = frames_by_things(book)
        within = frozenset((frame, sort) for frame, sort in self.every if frame in frames)
        wanted = self.of_word(word) & within
        for many, found in enumerate(self.sized):
            for held, closed in found:
                if (closed or word not in LETTERS) and held & within == wanted:
                    return many
        return None


class Checked(unittest.TestCase):
    def check(self, book, word, tellers, expected):
        self.assertEqual(fewest_signs(book, word, tellers), expected, (book, word, tellers))
        formula = short(book, word, tellers)
        if expected is None:
            self.assertIsNone(formula)
        else:
            self.assertEqual(signs(formula), expected)
            self.assertIs(is_written(book, word, tellers, formula), True)
            self.assertLessEqual(set(words_in(formula)), set(tellers))
            self.assertTrue(word not in LETTERS or is_sentence(formula))


class TestShort(Checked):
    def test_example(self):
        self.check(FULL, "A", ("B", "p"), 1)
        self.assertEqual(short(FULL, "A", ("B", "p")), "p")
        self.check(FULL, "A", ("B",), None)
        self.check(FULL, "p", ("A", "B"), 2)
        self.check(FULL, "p", ("B",), None)
        self.check(FULL, "B", ("A", "p"), None)

    def test_numbers_of_signs(self):
        for formula, expected in (
                ("B", 1), (("not", "B"), 2), (("and", "B", "C"), 3), (("or", "B", "p"), 3),
                (("and", "B", ("not", "C")), 4), (("some", ("and", "B", "C")), 4), (("and", "B", "C", "p"), 4),
                (("and", "B", ("or", "C", "p")), 5), (("or", "B", "C", "p", "q"), 5),
                (("and", "B", ("not", ("some", "C"))), 5), (("or", ("all", "B"), ("some", "C")), 5),
                (("and", ("not", "B"), ("not", "C")), 4), (("all", ("or", "B", ("not", "C"))), 5),
                (("or", ("and", "B", "C"), ("and", ("not", "B"), "p")), None),
                (("and", "B", ("not", ("some", ("and", "C", "p")))), None),
                (("or",), 1), (("and",), 1), (("and", ("and", ("and", "B"))), 1)):
            with self.subTest(formula=formula):
                self.check((3, 2, (iff("A", formula),)), "A", ("B", "C", "p", "q"), expected)

    def test_sentences_for_letters(self):
        for formula, expected in (
                (("some", "A"), 2), (("all", ("not", "A")), 3), (("not", ("some", "A")), 3),
                (("some", ("and", "A", "B")), 4), (("and", ("some", "A"), "q"), 4),
                (("and", ("some", "A"), ("some", "B")), 5), (("some", ("and", "A", ("not", "B"))), 5), ("q", 1),
                (("not", "q"), 2), (("and", ("some", "A"), ("some", "B"), "q"), None), (("or",), 1), (("and",), 1)):
            with self.subTest(formula=formula):
                self.check((2, 2, (iff("p", formula),)), "p", ("A", "B", "q"), expected)

    def test_a_kind_that_holds_of_all_or_none(self):
        # Of a thing p is where A is, but a letter is only written out by sentences.
        same = ("or", ("all", "A"), ("all", ("not", "A")))
        self.check((1, 1, (same, iff("p", ("some", "A")))), "p", ("A",), 2)
        self.check((2, 0, (same, iff("B", ("some", "A")))), "B", ("A",), 1)
        self.check((1, 1, (same, iff("p", ("not", ("some", "A"))))), "p", ("A",), 3)
        self.check((2, 0, (same, iff("B", ("not", ("some", "A"))))), "B", ("A",), 2)
        self.check((1, 2, (same, iff("p", ("and", "q", ("some", "A"))))), "p", ("A", "q"), 4)
        self.check((1, 2, (same, iff("p", ("or", "q", ("some", "A"))))), "p", ("A", "q"), 4)
        self.check((1, 1, (same, iff("p", ("some", "A")))), "A", ("p",), 1)

    def test_and_and_or_with_one_sign(self):
        for rule, word, expected in ((("all", "A"), "A", ("and",)), (("not", ("some", "A")), "A", ("or",)),
                                     ("p", "p", ("and",)), (("not", "p"), "p", ("or",))):
            for tellers in ((), tuple(other for other in ("A", "p") if other != word)):
                self.check((1, 1, (rule,)), word, tellers, 1)
            self.assertEqual(short((1, 1, (rule,)), word, ()), expected)

    def test_without_a_world(self):
        for word, tellers in (("A", ()), ("A", ("p",)), ("p", ()), ("p", ("A",))):
            self.check(NO_WORLD, word, tellers, 1)

    def test_without_rules(self):
        for kinds, letters in vocabularies():
            words = words_in_order(kinds, letters)
            for word in words:
                self.check((kinds, letters, ()), word, tuple(other for other in words if other != word), None)

    def test_without_kinds(self):
        self.check((0, 2, (iff("p", "q"),)), "p", ("q",), 1)
        self.check((0, 2, (iff("p", ("not", "q")),)), "p", ("q",), 2)
        self.check((0, 2, (("or", "p", "q"),)), "p", ("q",), None)
        self.check((0, 1, ("p",)), "p", (), 1)
        self.check((0, 1, ()), "p", (), None)

    def test_told_but_not_in_five_signs(self):
        long = ("or", ("and", "B", ("not", "C")), ("and", ("not", "B"), "C"))
        self.check((3, 0, (iff("A", long),)), "A", ("B", "C"), None)
        self.check((3, 0, (iff("A", long), ("all", ("or", "B", "C")))), "A", ("B", "C"), 4)
        self.check((3, 0, (iff("A", long), ("all", "C"))), "A", ("B", "C"), 2)

    def test_against_all_formulas_with_five_signs(self):
        rng = drawn("short")
        results = set()
        for kinds, letters, words in ((1, 1, ("A",)), (1, 1, ("p",)), (2, 0, ("B",)), (1, 2, ("A", "q")),
                                      (2, 1, ("B", "p")), (2, 1, ("A", "B")), (2, 1, ()), (2, 2, ("B", "p", "q"))):
            spots = Spots(kinds, letters, words)
            for word in words_in_order(kinds, letters):
                if word not in words:
                    for turn in range(60):
                        rules = some_book(rng, kinds, letters, 3)[2]
                        if turn % 4 == 0:
                            rules = (*rules, ("or", ("all", "A"), ("all", ("not", "A")))) if kinds > 0 else rules
                        if turn % 3 != 0:
                            made = some_sentence if word in LETTERS else some_formula
                            rules = (iff(word, made(rng, words, rng.randint(3, 9))), *rules[turn % 2 * 2:])
                        book = (kinds, letters, rules)
                        expected = spots.fewest(book, word)
                        results.add(expected)
                        self.check(book, word, words, expected)
        self.assertEqual(results, {None, 1, 2, 3, 4, 5})

    def test_large_books_are_quick(self):
        others = ("B", "C", "p", "q")
        xor = ("or", ("and", "B", ("not", "q")), ("and", ("not", "B"), ("some", "C"), "q"))
        with soon(3):
            self.check((3, 2, (iff("A", xor),)), "A", others, None)
            for tellers in subsets(others):
                self.check((3, 2, ()), "A", tellers, None)


if __name__ == "__main__":
    unittest.main()
