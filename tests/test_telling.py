"""Point 6: whether words tell a word, how it is written out, and pairs of worlds."""

import unittest

from tellwords.books import book_error
from tellwords.formulas import is_sentence, signs, words_in
from tellwords.telling import is_pair, is_written, pair, told, written
from tellwords.worlds import is_world
from tests.helpers import (
    LETTERS, ODD_VALUES, all_worlds, deep, drawn, frames_by_things, iff, keeps_by_things, seen_frame,
    some_book, some_formula, some_sentence, some_world, soon, sorts_of, subsets, things_of,
    told_by_frames, told_by_worlds, vocabularies, words_in_order, words_left,
)

# The books of the document's example.
BOOK = (2, 1, (("all", ("or", ("not", "A"), "B")), ("or", ("not", "p"), ("all", "A"))))
FULL = (2, 1, (*BOOK[2], ("or", "p", ("all", ("not", "A")))))

NO_WORLD = (1, 1, (("all", "A"), ("some", ("not", "A"))))


def of_sort(sort):
    """The formula that holds of the things of a sort of three kinds."""
    return ("and", *[word if word in sort else ("not", word) for word in "ABC"])


def is_written_by_frames(frames, word, tellers, formula):
    """Whether a formula is a writing-out in worlds of these frames, a world being its frame."""
    if not set(words_in(formula)) <= set(tellers) or (word in LETTERS and not is_sentence(formula)):
        return False
    return all(things_of(frame, formula) == things_of(frame, word) for frame in frames)


def is_pair_by_things(book, word, tellers, value):
    """Whether two worlds of the vocabulary are a pair, said as the document says it."""
    one, other = value
    look, other_look = [(words_left(yes, tellers), [words_left(thing, tellers) for thing in things])
                        for yes, things in value]
    return (keeps_by_things(book, one) and keeps_by_things(book, other) and look == other_look
            and things_of(one, word) != things_of(other, word))


class Checked(unittest.TestCase):
    def check(self, book, word, tellers, expected):
        """Whether told, written and pair are right for these, expected being what told has to be."""
        self.assertIsNone(book_error(book))
        self.assertIs(told(book, word, tellers), expected, (book, word, tellers))
        formula = written(book, word, tellers)
        worlds = pair(book, word, tellers)
        self.assertIs(formula is not None, expected)
        self.assertIs(worlds is None, expected)
        if expected:
            self.check_written(book, word, tellers, formula)
        else:
            self.check_pair(book, word, tellers, worlds)

    def check_written(self, book, word, tellers, formula):
        frames = frames_by_things(book)
        self.assertTrue(is_written_by_frames(frames, word, tellers, formula))
        self.assertIs(is_written(book, word, tellers, formula), True)
        looks = {seen_frame(frame, tellers) for frame in frames}
        self.assertLessEqual(signs(formula), max(1, 200 * len(looks)))

    def check_pair(self, book, word, tellers, worlds):
        self.assertIs(type(worlds), tuple)
        for world in worlds:
            self.assertIs(is_world(book[0], book[1], world), True)
        self.assertTrue(is_pair_by_things(book, word, tellers, worlds))
        self.assertIs(is_pair(book, word, tellers, worlds), True)


class TestExample(Checked):
    def test_not_told(self):
        self.check(BOOK, "A", ("B", "p"), False)
        self.assertIs(is_pair(BOOK, "A", ("B", "p"), (((), (("A", "B"),)), ((), (("B",),)))), True)

    def test_told(self):
        self.check(FULL, "A", ("B", "p"), True)
        self.assertIs(is_written(FULL, "A", ("B", "p"), "p"), True)

    def test_all_words_and_tellers(self):
        for book in (BOOK, FULL):
            frames = frames_by_things(book)
            for word in ("A", "B", "p"):
                for tellers in subsets([other for other in ("A", "B", "p") if other != word]):
                    self.check(book, word, tellers, told_by_frames(frames, word, tellers))


class TestTold(Checked):
    def test_no_rules(self):
        for kinds, letters in vocabularies():
            words = words_in_order(kinds, letters)
            for word in words:
                self.check((kinds, letters, ()), word, (), False)
                self.check((kinds, letters, ()), word, tuple(other for other in words if other != word), False)

    def test_no_tellers(self):
        for word, rule in (("A", ("all", "A")), ("A", ("not", ("some", "A"))), ("p", "p"), ("q", ("not", "q"))):
            self.check((1, 2, (rule,)), word, (), True)
        # In each world all things or none are an A, and it is not told which.
        self.check((1, 0, (("or", ("all", "A"), ("all", ("not", "A"))),)), "A", (), False)

    def test_worlds_of_one_frame(self):
        # There is one frame only, but it is not told which of its things are what.
        book = (1, 0, (("some", "A"), ("some", ("not", "A"))))
        self.check(book, "A", (), False)
        self.check((2, 0, (*book[2], iff("B", ("not", "A")))), "A", ("B",), True)

    def test_a_letter_told_by_how_many_sorts_there_are(self):
        self.check((1, 1, (iff("p", ("some", "A")),)), "p", ("A",), True)
        self.check((1, 1, (iff("p", ("some", "A")),)), "A", ("p",), False)
        self.check((1, 1, (iff("p", ("all", "A")), ("or", "p", ("all", ("not", "A"))))), "A", ("p",), True)

    def test_book_without_a_world(self):
        for word, tellers in (("A", ()), ("A", ("p",)), ("p", ()), ("p", ("A",))):
            self.check(NO_WORLD, word, tellers, True)
            for formula in ("p", ("and",), ("or",), ("some", "A"), "A"):
                expected = set(words_in(formula)) <= set(tellers) and (word != "p" or formula != "A")
                self.assertIs(is_written(NO_WORLD, word, tellers, formula), expected)

    def test_any_number_of_things(self):
        # It takes more things than there are in a world of two sorts to see that p is not told.
        rule = ("or", ("not", "p"), ("and", *[("some", of_sort(sort)) for sort in sorts_of(3)[:4]]))
        more = ("or", ("not", "p"), ("and", *[("some", of_sort(sort)) for sort in sorts_of(3)[4:]]))
        self.check((3, 1, (rule, more)), "p", ("A", "B", "C"), False)
        self.check((3, 1, (rule, more)), "p", ("A", "B"), False)
        self.check((3, 1, (rule, more, ("or", ("all", "A"), ("not", ("some", "A"))))), "p", (), True)

    def test_against_all_small_worlds(self):
        # Two kinds make four sorts: if a word is not told, worlds with four things show it.
        rng = drawn("told")
        results = []
        for turn in range(60):
            kinds, letters = [(1, 0), (1, 1), (2, 0), (2, 1), (1, 2), (0, 2)][turn % 6]
            book = some_book(rng, kinds, letters, 4)
            worlds = [world for world in all_worlds(kinds, letters, 2 ** kinds) if keeps_by_things(book, world)]
            words = words_in_order(kinds, letters)
            for word in words:
                for tellers in subsets([other for other in words if other != word]):
                    expected = told_by_worlds(worlds, word, tellers)
                    results.append(expected)
                    self.check(book, word, tellers, expected)
        self.assertGreater(results.count(True), 50)
        self.assertGreater(results.count(False), 50)

    def test_large_vocabularies_against_the_reference(self):
        rng = drawn("large told")
        results = []
        for turn in range(25):
            kinds, letters = [(3, 0), (3, 1), (3, 2), (2, 2)][turn % 4]
            book = some_book(rng, kinds, letters)
            frames = frames_by_things(book)
            words = words_in_order(kinds, letters)
            for word in words:
                others = tuple(other for other in words if other != word)
                for tellers in {others, tuple(other for other in others if rng.random() < 0.6)}:
                    expected = told_by_frames(frames, word, tellers)
                    results.append(expected)
                    self.check(book, word, tellers, expected)
        self.assertGreater(results.count(True), 20)
        self.assertGreater(results.count(False), 20)


class TestManySorts(Checked):
    def test_a_letter_that_tells_of_five_sorts_and_more(self):
        some = [("some", of_sort(sort)) for sort in sorts_of(3)]
        for many in range(5, 9):
            # p is yes if the first four are there, q if the others are.
            book = (3, 2, (("or", "p", ("not", ("and", *some[:4]))), ("or", ("not", "p"), ("and", *some[:2])),
                           ("or", ("not", "p"), ("and", *some[2:4])), iff("q", ("and", "p", some[many - 1]))))
            self.check(book, "q", ("A", "B", "C"), True)
            self.check(book, "q", ("p",), False)
            self.check(book, "p", ("A", "B", "C"), True)
            self.check(book, "p", ("A", "B"), False)

    def test_a_letter_that_tells_whether_an_odd_number_of_sorts_is_there(self):
        odd = ("some", "A")
        for word in ("B", "C"):
            odd = ("or", ("and", odd, ("not", ("some", word))), ("and", ("not", odd), ("some", word)))
        book = (3, 1, (("or", ("not", "p"), odd), ("or", "p", ("not", odd))))
        self.check(book, "p", ("A", "B", "C"), True)
        self.check(book, "p", ("A", "B"), False)

    def test_no_more_than_two_hundred_signs_for_each_frame_seen(self):
        # Few frames are seen, but what is seen of them is long.
        some = [("some", of_sort(sort)) for sort in sorts_of(3)]
        rules = [("or", some[at], ("not", some[at + 1])) for at in (0, 2, 4)]
        rules.append(iff("p", ("and", some[1], some[3])))
        self.check((3, 1, tuple(rules)), "p", ("A", "B", "C"), True)
        for sort in sorts_of(3):
            self.check((3, 1, (("all", of_sort(sort)), "p")), "p", ("A", "B", "C"), True)
            self.check((3, 1, (("all", of_sort(sort)), "p")), "A", ("B", "C", "p"), True)


class TestWritten(Checked):
    def test_a_sentence_for_a_letter(self):
        # In one-thing worlds p is where A is; but that is no sentence.
        book = (1, 1, (("or", ("all", "A"), ("not", ("some", "A"))), iff("p", ("some", "A"))))
        self.check(book, "p", ("A",), True)
        self.assertIs(is_written(book, "p", ("A",), "A"), False)
        for formula in (("some", "A"), ("all", "A"), ("and", ("some", "A"), ("all", "A"))):
            self.assertIs(is_written(book, "p", ("A",), formula), True)
        for formula in ("A", ("some", "A"), ("all", "A")):
            self.assertIs(is_written((2, 0, (*book[2][:1], iff("B", "A"))), "B", ("A",), formula), True)

    def test_only_words_of_tellers(self):
        book = (2, 1, (iff("A", "B"), iff("p", ("some", "B"))))
        self.assertIs(is_written(book, "A", ("B",), "B"), True)
        self.assertIs(is_written(book, "A", (), "B"), False)
        self.assertIs(is_written(book, "A", ("p",), "B"), False)
        self.assertIs(is_written(book, "A", ("B",), "A"), False)
        self.assertIs(is_written(book, "A", ("B",), ("and", "B", ("or", "p", ("not", "p")))), False)
        self.assertIs(is_written(book, "A", ("B", "p"), ("and", "B", ("or", "p", ("not", "p")))), True)
        self.assertIs(is_written(book, "p", ("B",), "p"), False)

    def test_holds_just_where_the_word_does(self):
        book = (2, 1, (iff("A", ("and", "B", ("not", "p"))),))
        for formula, expected in ((("and", "B", ("not", "p")), True), ("B", False), (("and",), False),
                                  (("not", ("or", ("not", "B"), "p")), True), (("or",), False),
                                  (("and", "B", ("not", "p"), ("some", "B")), True),
                                  (("and", "B", ("not", "p"), ("all", "B")), False)):
            self.assertIs(is_written(book, "A", ("B", "p"), formula), expected)

    def test_any_value(self):
        for value in (*ODD_VALUES, ["and"], [["A"]], ("and", ["B"]), ("not", ("not", ["B"])), {"B": "B"},
                      ("some", "B", "B"), "C", "q", ("and", "B", "C"), ("or", "B", "q"), ("and", "B", True)):
            for word, tellers in (("A", ("B", "p")), ("p", ("A", "B")), ("B", ())):
                with self.subTest(value=value, word=word):
                    self.assertIs(is_written(FULL, word, tellers, value), False)

    def test_many_not_deep(self):
        for many in range(60):
            self.assertIs(is_written(FULL, "A", ("B", "p"), deep(["not"] * many, "p")), many % 2 == 0)
        for many in (500, 501, 5000, 5001):
            with soon():
                self.assertIs(is_written(FULL, "A", ("p",), deep(["not"] * many, "p")), many % 2 == 0)
                self.assertIs(is_written(FULL, "p", ("A",), deep(["not"] * many, "A")), False)
                self.assertIs(is_written(FULL, "A", ("p",), deep(["not"] * many, ["p"])), False)

    def test_many_signs(self):
        with soon():
            self.assertIs(is_written(FULL, "A", ("p",), ("and", *["p"] * 9990)), True)
            self.assertIs(is_written(FULL, "A", ("p",), ("and", *["p"] * 9990, ("or",))), False)

    def test_results_with_parts_replaced(self):
        book = (3, 2, (iff("A", ("or", ("and", "B", ("not", "q")), ("and", "C", ("some", "B")))),))
        formula = written(book, "A", ("B", "C", "q"))
        self.assertIs(is_written(book, "A", ("B", "C", "q"), formula), True)
        for at in range(len(formula)):
            for value in ("A", "p", None, [], ("not", "A", "A"), list(formula)):
                changed = (*formula[:at], value, *formula[at + 1:])
                self.assertIs(is_written(book, "A", ("B", "C", "q"), changed), False)
        self.assertIs(is_written(book, "A", ("B", "C", "q"), list(formula)), False)

    def test_against_the_reference(self):
        rng = drawn("is written")
        results = []
        for _ in range(300):
            kinds, letters = rng.choice([(1, 1), (2, 0), (2, 1), (0, 2), (1, 2)])
            words = words_in_order(kinds, letters)
            book = some_book(rng, kinds, letters, 3)
            word = rng.choice(words)
            tellers = rng.choice(subsets([other for other in words if other != word]))
            formula = some_formula(rng, rng.choice([words, tellers or words]), rng.randint(1, 4))
            results.append(is_written_by_frames(frames_by_things(book), word, tellers, formula))
            self.assertIs(is_written(book, word, tellers, formula), results[-1])
        self.assertEqual(set(results), {True, False})


class TestPair(Checked):
    def test_turned_round(self):
        one, other = ((), (("A", "B"),)), ((), (("B",),))
        for value in ((one, other), (other, one)):
            self.assertIs(is_pair(BOOK, "A", ("B", "p"), value), True)
        for value in ((one, one), (other, other)):
            self.assertIs(is_pair(BOOK, "A", ("B", "p"), value), False)

    def test_more_things(self):
        for many in (1, 2, 11, 12, 13, 50):
            value = ((), (("A", "B"),) * many), ((), (("B",),) * many)
            self.assertIs(is_pair(BOOK, "A", ("B", "p"), value), many <= 12)

    def test_worlds_that_do_not_keep_the_book(self):
        for value in ((((), (("A",),)), ((), ((),))), ((("p",), (("A", "B"),)), (("p",), (("B",),)))):
            self.assertIs(is_pair(BOOK, "A", ("B", "p"), value), False)
            self.assertIs(is_pair((2, 1, ()), "A", ("B", "p"), value), True)

    def test_worlds_of_other_vocabularies(self):
        value = ((), (("A",),)), ((), ((),))
        self.assertIs(is_pair((1, 0, ()), "A", (), value), True)
        self.assertIs(is_pair((0, 1, ()), "p", (), value), False)
        for more in (("B",), ("B", "C")):
            value = ((), (("A", *more),)), ((), (more,))
            self.assertIs(is_pair((1, 0, ()), "A", (), value), False)
        value = (("q",), (("A",),)), (("q",), ((),))
        self.assertIs(is_pair((1, 1, ()), "A", ("p",), value), False)
        self.assertIs(is_pair((1, 2, ()), "A", ("p",), value), True)

    def test_worlds_that_do_not_look_alike(self):
        one, other = ((), (("A", "B"),)), ((), (("B",),))
        free = (2, 1, ())
        for changed in ((("p",), (("B",),)), ((), ((),)), ((), (("B",), ("B",))), ((), (("B",), ()))):
            self.assertIs(is_pair(free, "A", ("B", "p"), (one, other)), True)
            self.assertIs(is_pair(free, "A", ("B", "p"), (one, changed)), False)
            self.assertIs(is_pair(free, "A", ("B", "p"), (changed, one)), False)
        self.assertIs(is_pair(free, "A", (), (one, ((), ((),)))), True)
        self.assertIs(is_pair(free, "A", ("B",), (one, (("p",), (("B",),)))), True)

    def test_things_in_another_order(self):
        one, other = ((), (("A",), ())), ((), ((), ("A",)))
        self.assertIs(is_pair((1, 0, ()), "A", (), (one, other)), True)
        one, other = ((), (("A", "B"), ())), ((), ((), ("A", "B")))
        self.assertIs(is_pair((2, 0, ()), "A", ("B",), (one, other)), False)
        self.assertIs(is_pair((2, 0, ()), "A", (), (one, other)), True)

    def test_a_letter(self):
        free = (1, 2, ())
        one, other = (("p",), (("A",), ())), ((), (("A",), ()))
        for tellers in subsets(("A", "q")):
            self.assertIs(is_pair(free, "p", tellers, (one, other)), True)
        self.assertIs(is_pair(free, "q", ("A",), (one, other)), False)
        self.assertIs(is_pair(free, "p", ("A",), (one, ((), ((), ("A",))))), False)
        self.assertIs(is_pair(free, "p", (), (one, ((), ((), ("A",))))), True)
        self.assertIs(is_pair(free, "p", (), (one, ((), (("A",),)))), False)

    def test_any_value(self):
        one, other = ((), (("A", "B"),)), ((), (("B",),))
        for value in (*ODD_VALUES, one, (one,), (one, other, other), [one, other], {0: one, 1: other},
                      (list(one), other), (one, list(other)), (one, ((), [("B",)])), (one, ((), (["B"],)))):
            with self.subTest(value=value):
                self.assertIs(is_pair(BOOK, "A", ("B", "p"), value), False)
        for odd in ODD_VALUES:
            self.assertIs(is_pair(BOOK, "A", ("B", "p"), (one, odd)), False)
            self.assertIs(is_pair(BOOK, "A", ("B", "p"), (odd, one)), False)

    def test_a_letter_that_only_many_sorts_tell_apart(self):
        some = [("some", of_sort(sort)) for sort in sorts_of(3)]
        book = (3, 1, (("and", *some[:4]), ("and", *some[4:7]), some[7]))
        self.check(book, "p", ("A", "B", "C"), False)
        self.assertEqual(len(pair(book, "p", ("A", "B", "C"))[0][1]), 8)
        for tellers in subsets(("B", "C", "p")):
            self.check(book, "A", tellers, False)

    def test_worlds_that_are_unlike_at_several_sorts(self):
        # In each world A is B, or A is where B is not; things of both kinds are there.
        same, other = iff("A", "B"), iff("A", ("not", "B"))
        for both in ((same, other), (other, same)):
            book = (2, 0, (("or", *both), ("some", "B"), ("some", ("not", "B"))))
            self.check(book, "A", ("B",), False)
            self.check(book, "B", ("A",), False)
            self.check((2, 1, (*book[2], ("or", "p", same))), "A", ("B",), False)

    def test_worlds_of_unlike_frames(self):
        # One world has three sorts that are seen alike, the other one a single one.
        book = (3, 1, (("or", "p", ("all", ("or", "A", "B"))), ("or", ("not", "p"), ("all", of_sort(()))),
                       ("or", "p", ("some", of_sort(("A", "B")))), ("or", "p", ("some", of_sort(("B",))))))
        for word in ("A", "B", "p"):
            for tellers in subsets([other for other in ("A", "B", "C", "p") if other != word]):
                self.check(book, word, tellers, told_by_frames(frames_by_things(book), word, tellers))

    def test_against_the_reference(self):
        rng = drawn("is pair")
        results = []
        for _ in range(1500):
            kinds, letters = rng.choice([(1, 0), (1, 1), (2, 1), (0, 2)])
            words = words_in_order(kinds, letters)
            word = rng.choice(words)
            tellers = rng.choice(subsets([other for other in words if other != word]))
            book = some_book(rng, kinds, letters, 1)
            value = some_world(rng, kinds, letters, 2), some_world(rng, kinds, letters, 2)
            results.append(is_pair_by_things(book, word, tellers, value))
            self.assertIs(is_pair(book, word, tellers, value), results[-1])
        self.assertGreater(results.count(True), 50)


class TestQuick(Checked):
    def test_large_books(self):
        rng = drawn("quick")
        for _ in range(10):
            rules = [some_sentence(rng, ("A", "B", "C", "p", "q"), 40) for _ in range(5)]
            book = (3, 2, (iff("p", ("some", ("and", "A", "B", ("not", "q")))), *rules))
            with soon(3):
                for word, tellers in (("p", ("A", "B", "C", "q")), ("A", ("B", "C", "p", "q")), ("A", ())):
                    formula = written(book, word, tellers)
                    if formula is None:
                        is_pair(book, word, tellers, pair(book, word, tellers))
                    else:
                        is_written(book, word, tellers, formula)


if __name__ == "__main__":
    unittest.main()
