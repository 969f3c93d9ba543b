"""Point 5: books."""

import unittest

from tellwords.books import against, alike, book_error, follows, frames, keeps, parting
from tellwords.formulas import is_sentence, signs
from tellwords.worlds import frame_of, holds_of, is_world
from tests.helpers import (
    ODD_VALUES, all_worlds, deep, drawn, frames_by_things, iff, keeps_by_things, some_book,
    some_formula, some_sentence, some_world, soon, sorts_of, things_of, vocabularies, words_in_order,
)

ALL_A_ARE_B = ("all", ("or", ("not", "A"), "B"))
# The book of the document's example, and the rule that comes behind its rules there.
BOOK = (2, 1, (ALL_A_ARE_B, ("or", ("not", "p"), ("all", "A"))))
BEHIND = ("or", "p", ("all", ("not", "A")))

NO_WORLD = (1, 1, (("all", "A"), ("some", ("not", "A"))))

# A sentence with forty signs, and one with forty-one.
FORTY = ("and", *["p"] * 39)
FORTY_ONE = ("and", *["p"] * 40)


def of_sort(sort):
    """The formula that holds of the things of a sort of three kinds."""
    return ("and", *[word if word in sort else ("not", word) for word in "ABC"])


def with_sorts(sorts):
    """A book of three kinds, no letters and six rules at most, in whose worlds are these sorts."""
    rules = [("some", of_sort(sort)) for sort in sorts]
    return (3, 0, tuple(rules[:5]) + ((("and", *rules[5:]),) if rules[5:] else ()))


class TestBookError(unittest.TestCase):
    def test_books(self):
        for value in (BOOK, (*BOOK[:2], (*BOOK[2], BEHIND)), NO_WORLD, (0, 1, ("p",) * 6), (0, 2, (FORTY,) * 6),
                      (3, 0, ()), (0, 1, ()), (3, 2, (deep(["not"] * 39, "q"), ("and",), ("or",)))):
            with self.subTest(value=value):
                self.assertIsNone(book_error(value))

    def test_all_vocabularies(self):
        for kinds in range(-1, 6):
            for letters in range(-1, 5):
                expected = None
                if not 0 <= kinds <= 3:
                    expected = (None, "kinds")
                elif not 0 <= letters <= 2:
                    expected = (None, "letters")
                elif kinds == letters == 0:
                    expected = (None, "words")
                self.assertEqual(book_error((kinds, letters, ())), expected)

    def test_no_triple(self):
        for value in (*ODD_VALUES, (1, 1), (1, 1, (), ()), [1, 1, ()], {0: 1, 1: 1, 2: ()}, "ab()"):
            with self.subTest(value=value):
                triple = isinstance(value, tuple) and len(value) == 3
                self.assertEqual(book_error(value), (None, "kinds" if triple else "book"))

    def test_odd_numbers(self):
        for value in ODD_VALUES:
            with self.subTest(value=value):
                whole = type(value) is int and value in (0, 1)
                self.assertEqual(book_error((value, 1, ())), None if whole else (None, "kinds"))
                self.assertEqual(book_error((1, value, ())), None if whole else (None, "letters"))

    def test_true_and_false_are_no_numbers(self):
        for value in (True, False):
            self.assertEqual(book_error((value, 1, ())), (None, "kinds"))
            self.assertEqual(book_error((1, value, ())), (None, "letters"))
            self.assertEqual(book_error((value, value, ())), (None, "kinds"))
            self.assertEqual(book_error((0, value, ())), (None, "letters"))
            self.assertEqual(book_error((1, 1, value)), (None, "rules"))
            self.assertEqual(book_error((1, 1, (value,))), (0, "formula"))

    def test_odd_rules(self):
        for value in ODD_VALUES:
            with self.subTest(value=value):
                if not isinstance(value, tuple):
                    self.assertEqual(book_error((1, 1, value)), (None, "rules"))
                if value != "":
                    self.assertEqual(book_error((3, 2, ("p", value, ("or", "A")))), (1, "formula"))
        for value in (["p"], [], {}, "p", "pq", None, 0, ("p",) * 7, ((),) * 7):
            self.assertEqual(book_error((1, 2, value)), (None, "rules"))

    def test_wrong_formulas(self):
        for rule, error in (("A", "sentence"), (("or", "p", "A"), "sentence"), (FORTY_ONE, "signs"),
                            (("and", "A", *["p"] * 39), "signs"), (("all", "B"), "formula"), ("q", "formula"),
                            (("and", "B", *["p"] * 60), "formula"), (("some",), "formula"),
                            (["all", "A"], "formula"), (deep(["not"] * 59, "A"), "signs"),
                            (("and", ("some", "A"), "A"), "sentence"), (("not", "A"), "sentence")):
            for ahead in range(6):
                with self.subTest(rule=rule, ahead=ahead):
                    value = (1, 1, (*[("some", "A")] * ahead, rule))
                    self.assertEqual(book_error(value), (ahead, error))

    def test_the_first_error(self):
        self.assertEqual(book_error((4, 3, None)), (None, "kinds"))
        self.assertEqual(book_error((0, 3, None)), (None, "letters"))
        self.assertEqual(book_error((0, 0, None)), (None, "words"))
        self.assertEqual(book_error((1, 0, ("p",) * 7)), (None, "rules"))
        self.assertEqual(book_error((1, 1, ("p", "A", FORTY_ONE, "B"))), (1, "sentence"))
        self.assertEqual(book_error((1, 1, ("p", FORTY_ONE, "A", "B"))), (1, "signs"))
        self.assertEqual(book_error((1, 1, ("p", "B", "A", FORTY_ONE))), (1, "formula"))


class TestKeeps(unittest.TestCase):
    def test_worlds_of_the_example(self):
        for value, expected in ((((), (("A", "B"),)), True), (((), (("B",),)), True), (((), (("A",),)), False),
                                ((("p",), (("A", "B"),)), True), ((("p",), (("B",),)), False)):
            with self.subTest(value=value):
                self.assertIs(keeps(BOOK, value), expected)

    def test_of_the_vocabulary(self):
        self.assertIs(keeps((1, 0, ()), ((), (("A",), ()))), True)
        self.assertIs(keeps((1, 0, ()), ((), (("B",),))), False)
        self.assertIs(keeps((1, 0, ()), (("p",), ((),))), False)
        self.assertIs(keeps((0, 1, ()), (("p",), ((),))), True)
        self.assertIs(keeps((0, 1, ()), (("q",), ((),))), False)
        self.assertIs(keeps((0, 1, ()), ((), (("A",),))), False)

    def test_at_most_twelve_things(self):
        for many in (0, 1, 12, 13, 40, 5000):
            self.assertIs(keeps((1, 0, (("all", "A"),)), ((), (("A",),) * many)), many in (1, 12))

    def test_other_values(self):
        for value in (*ODD_VALUES, "p", "A", ((), [()]), [(), ((),)], ((), ((), ("A", "A")))):
            for book in (BOOK, NO_WORLD, (3, 2, ())):
                with self.subTest(value=value):
                    self.assertIs(keeps(book, value), False)

    def test_all_rules_count(self):
        rules = [("some", word) for word in "ABC"] + ["p", "q", ("some", ("and", "A", "B"))]
        world = (("p", "q"), (("A", "B"), ("C",)))
        self.assertIs(keeps((3, 2, tuple(rules)), world), True)
        for at, rule in enumerate(rules):
            self.assertIs(keeps((3, 2, (*rules[:at], ("not", rule), *rules[at + 1:])), world), False)

    def test_against_the_reference(self):
        rng = drawn("keeps")
        kept = []
        for turn in range(300):
            kinds, letters = rng.choice(vocabularies())
            book = some_book(rng, kinds, letters, 3)
            world = some_world(rng, kinds, letters, 12)
            kept.append(keeps_by_things(book, world))
            self.assertIs(keeps(book, world), kept[-1])
        self.assertEqual(set(kept), {True, False})


class TestFrames(unittest.TestCase):
    def test_example(self):
        stocks = (((),), ((), ("A", "B")), ((), ("A", "B"), ("B",)), ((), ("B",)), (("A", "B"),),
                  (("A", "B"), ("B",)), (("B",),))
        self.assertEqual(frames(BOOK), (*[((), stock) for stock in stocks], (("p",), (("A", "B"),))))

    def test_no_rules(self):
        for kinds, letters in vocabularies():
            found = frames((kinds, letters, ()))
            self.assertEqual(len(found), 2 ** letters * (2 ** 2 ** kinds - 1))
            self.assertEqual(found, tuple(sorted(set(found))))

    def test_no_kinds(self):
        self.assertEqual(frames((0, 2, (("or", "p", "q"),))),
                         ((("p",), ((),)), (("p", "q"), ((),)), (("q",), ((),))))
        self.assertEqual(frames((0, 1, (("some", "p"),))), ((("p",), ((),)),))
        self.assertEqual(frames((0, 1, (("some", ("and",)), ("all", ("not", "p"))))), (((), ((),)),))

    def test_no_world(self):
        self.assertEqual(frames(NO_WORLD), ())
        self.assertEqual(frames((3, 2, (("or",),))), ())
        self.assertEqual(frames((0, 1, ("p", ("not", "p")))), ())
        self.assertEqual(frames((2, 0, (("all", ("some", ("or",))),))), ())

    def test_against_all_small_worlds(self):
        rng = drawn("frames")
        for turn in range(150):
            kinds, letters = [(1, 0), (1, 1), (2, 0), (2, 1), (1, 2), (0, 1), (0, 2), (2, 2)][turn % 8]
            book = some_book(rng, kinds, letters)
            expected = {frame_of(world) for world in all_worlds(kinds, letters, 4 if turn < 32 else 2)
                        if keeps_by_things(book, world)}
            found = frames(book)
            self.assertEqual(found, tuple(sorted(set(found))))
            if turn < 32:
                self.assertEqual(set(found), expected)
            self.assertLessEqual(expected, set(found))

    def test_large_vocabularies_against_the_reference(self):
        rng = drawn("large frames")
        for turn in range(24):
            book = some_book(rng, 3, turn % 3)
            self.assertEqual(set(frames(book)), frames_by_things(book))

    def test_worlds_with_many_sorts(self):
        for many in range(5, 9):
            book = with_sorts(sorts_of(3)[:many])
            self.assertIsNone(book_error(book))
            found = frames(book)
            self.assertEqual(len(found), 2 ** (8 - many))
            for yes, stock in found:
                self.assertLessEqual(set(sorts_of(3)[:many]), set(stock))

    def test_nested_some_and_all_are_quick(self):
        rule = deep(["some", "all"] * 19, ("not", "A"))
        with soon(2):
            self.assertEqual(len(frames((3, 2, (rule,) * 6))), 4 * 15)


class TestFollows(unittest.TestCase):
    def check(self, book, sentence, expected):
        self.assertIs(follows(book, sentence), expected)
        world = against(book, sentence)
        self.assertIs(world is None, expected)
        if world is not None:
            self.assertIs(is_world(book[0], book[1], world), True)
            self.assertTrue(keeps_by_things(book, world))
            self.assertEqual(things_of(world, sentence), set())

    def test_example(self):
        self.check(BOOK, ALL_A_ARE_B, True)
        self.check(BOOK, ("or", ("not", "p"), ("all", "B")), True)
        self.check(BOOK, ("or", ("not", "p"), ("some", "A")), True)
        self.check(BOOK, BEHIND, False)
        self.check(BOOK, ("not", "p"), False)
        self.check(BOOK, "p", False)

    def test_and_and_or(self):
        for book in (BOOK, (0, 1, ()), (3, 2, ())):
            self.check(book, ("and",), True)
            self.check(book, ("or",), False)

    def test_there_is_at_least_one_thing(self):
        self.check((1, 0, ()), ("some", ("or", "A", ("not", "A"))), True)
        self.check((0, 1, ()), ("some", ("and",)), True)
        self.check((1, 0, (("all", "A"),)), ("some", "A"), True)

    def test_book_without_a_world(self):
        for sentence in (("or",), ("and",), "p", ("not", "p"), ("some", "A")):
            self.check(NO_WORLD, sentence, True)

    def test_things_are_not_counted(self):
        # A world of the book that is against these has at least so many things.
        for many in range(2, 9):
            sorts = sorts_of(3)[:many]
            self.check(with_sorts(sorts), ("some", of_sort(sorts[-1])), True)
            self.check(with_sorts(sorts[:-1]), ("not", ("some", of_sort(sorts[-1]))), False)
            self.check(with_sorts(sorts[:-1]), ("some", of_sort(sorts[-1])), False)

    def test_all_eight_sorts(self):
        some = [("some", of_sort(sort)) for sort in sorts_of(3)]
        sentence = ("not", ("and", *some[3:7]))
        self.assertLessEqual(signs(sentence), 40)
        book = (3, 0, (*some[:3], some[7]))
        self.check(book, sentence, False)
        self.assertEqual(len(against(book, sentence)[1]), 8)

    def test_drawn_books(self):
        rng = drawn("follows")
        seen_results = []
        for turn in range(250):
            kinds, letters = rng.choice(vocabularies())
            book = some_book(rng, kinds, letters, 4)
            sentence = some_sentence(rng, words_in_order(kinds, letters), rng.randint(2, 40))
            if kinds < 3:
                expected = all(things_of(frame, sentence) for frame in frames_by_things(book))
            else:
                expected = all(things_of(frame, sentence) for frame in frames(book))
            seen_results.append(expected)
            self.check(book, sentence, expected)
        self.assertEqual(set(seen_results), {True, False})


class TestAlike(unittest.TestCase):
    def check(self, book, one, other, expected):
        self.assertIs(alike(book, one, other), expected)
        self.assertIs(alike(book, other, one), expected)
        for result in (parting(book, one, other), parting(book, other, one)):
            self.assertIs(result is None, expected)
            if result is not None:
                self.assertIs(type(result), tuple)
                world, thing = result
                self.assertIs(is_world(book[0], book[1], world), True)
                self.assertTrue(keeps_by_things(book, world))
                self.assertIs(type(thing), int)
                self.assertIn(thing, range(len(world[1])))
                self.assertNotEqual(thing in things_of(world, one), thing in things_of(world, other))

    def test_example(self):
        self.check(BOOK, "A", ("and", "A", "B"), True)
        self.check(BOOK, "A", "B", False)
        self.check(BOOK, ("and", "A", "p"), ("and", "B", "p"), True)
        self.check(BOOK, "p", "p", True)
        self.check(BOOK, "p", ("and", "p", "A"), True)
        self.check(BOOK, "p", "A", False)
        self.check((*BOOK[:2], (*BOOK[2], BEHIND)), "p", "A", True)

    def test_sentences_and_formulas(self):
        self.check((1, 0, ()), "A", ("some", "A"), False)
        self.check((1, 0, (("or", ("all", "A"), ("not", ("some", "A"))),)), "A", ("some", "A"), True)
        self.check((1, 0, ()), ("all", "A"), ("not", ("some", ("not", "A"))), True)
        self.check((1, 1, ()), ("and", "A", ("some", "A")), "A", True)
        self.check((0, 2, ()), "p", "q", False)
        self.check((0, 2, (iff("p", "q"),)), "p", "q", True)

    def test_book_without_a_world(self):
        self.check(NO_WORLD, ("and",), ("or",), True)
        self.check(NO_WORLD, "A", "p", True)

    def test_things_of_the_one_unlike_sort(self):
        # The formulas are unlike only of one sort, and only if all eight are there.
        some = [("some", of_sort(sort)) for sort in sorts_of(3)]
        for sort in sorts_of(3):
            book = (3, 0, (("and", *some[:4]), ("and", *some[4:7]), ("or", some[7], ("all", "A"))))
            self.check(book, "A", ("or", "A", of_sort(sort)), "A" in sort)
            self.check(book, ("some", "A"), ("all", "A"), False)

    def test_drawn_formulas(self):
        rng = drawn("alike")
        seen_results = []
        for turn in range(300):
            kinds, letters = rng.choice(vocabularies())
            words = words_in_order(kinds, letters)
            book = some_book(rng, kinds, letters, 3)
            one = some_formula(rng, words, rng.randint(1, 40))
            other = some_formula(rng, words, rng.randint(1, 4))
            worlds = frames_by_things(book) if kinds < 3 else frames(book)
            expected = all(things_of(world, one) == things_of(world, other) for world in worlds)
            seen_results.append(expected)
            self.check(book, one, other, expected)
            self.check(book, one, ("and", ("or", one)), True)
        self.assertEqual(set(seen_results), {True, False})

    def test_long_and_deep_results(self):
        one = ("or", *[("and", "A", deep(["not"] * 190, "B"))] * 25)
        with soon(2):
            self.check((3, 2, ()), one, ("and", "A", "B"), True)
            self.check((3, 2, ()), one, ("or", "A", "B"), False)
            self.assertIs(follows((3, 2, ()), ("all", one)), False)
            self.assertIsNotNone(against((3, 2, ()), ("all", one)))


class TestFortySigns(unittest.TestCase):
    def test_rules_of_forty_signs(self):
        self.assertEqual(signs(FORTY), 40)
        self.assertEqual(frames((1, 1, (FORTY,) * 6)), frames((1, 1, ("p",))))
        rule = deep(["not"] * 37, ("some", ("and", "A")))
        self.assertEqual(signs(rule), 40)
        self.assertTrue(is_sentence(rule))
        self.assertEqual(frames((1, 0, (rule,))), (((), ((),)),))
        self.assertEqual(holds_of(against((1, 0, (rule,)), ("some", "A")), "A"), ())


if __name__ == "__main__":
    unittest.main()
