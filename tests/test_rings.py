"""Point 10: plans, rings, definitions unwound and words put away."""

import itertools
import unittest

from tellwords.books import book_error
from tellwords.errors import Ringed, TooLong
from tellwords.formulas import replaced, signs, words_in
from tellwords.rings import book_of, plan_error, put_away, ring, unwound
from tests.helpers import (
    LETTERS, ODD_VALUES, deep, drawn, layered_plan, some_book, some_formula, some_sentence, soon,
    words_in_order,
)

FORTY = ("and", *["A"] * 39)
FORTY_ONE = ("and", *["A"] * 40)


def some_plan(rng, words, most=5, within=None):
    """A plan with some of the words, drawn by rng, the words of within standing in its formulas."""
    picked = rng.sample(words, rng.randint(1, min(most, len(words))))
    plan = []
    for word in picked:
        made = some_sentence if word in LETTERS else some_formula
        plan.append((word, made(rng, within or words, rng.randint(2, 9))))
    return tuple(plan)


def ring_by_all(plan):
    """The first of the shortest rings, by looking at all tuples of words of the plan."""
    formulas = dict(plan)
    for many in range(1, len(plan) + 1):
        for found in itertools.permutations(sorted(formulas), many):
            if all(following in words_in(formulas[word])
                   for word, following in zip(found, found[1:] + found[:1])):
                return found
    return None


def unwound_by_steps(plan, most):
    """What unwound returns or raises for a plan without a ring, by one replacement after another.

    It gives up where a formula has more signs than most: the plan's words are all replaced by more.
    """
    made = []
    for index, (_, formula) in enumerate(plan):
        while any(word in words_in(formula) for word, _ in plan) and signs(formula) <= most:
            for word, other in plan:
                if word in words_in(formula) and signs(formula) <= most:
                    formula = replaced(formula, word, other)
        if signs(formula) > most:
            return index
        made.append((plan[index][0], formula))
    return tuple(made)


class TestPlanError(unittest.TestCase):
    def test_plans(self):
        for value in ((), (("A", "A"),), (("A", FORTY), ("B", ("and",))), (("p", ("some", "A")), ("q", "p")),
                      (("q", ("or",)), ("C", "q"), ("A", ("not", "B")), ("p", "p"), ("B", "C")),
                      (("A", ("some", "B")),), (("A", "p"),), (("p", ("all", ("and", "A", "p"))),)):
            with self.subTest(value=value):
                self.assertIsNone(plan_error(3, 2, value))

    def test_no_tuple(self):
        for value in ODD_VALUES:
            if value != ():
                with self.subTest(value=value):
                    expected = (0, "pair") if isinstance(value, tuple) else (None, "plan")
                    self.assertEqual(plan_error(3, 2, value), expected)
        for value in ([("A", "B")], {"A": "B"}, "AB", [], {}, None, 0, True):
            self.assertEqual(plan_error(3, 2, value), (None, "plan"))

    def test_no_pair(self):
        for item in ((), ("A",), ("A", "B", "C"), ["A", "B"], {"A": "B"}, "AB", "A", None, 2, True, ((),)):
            for ahead in ((), (("A", "B"),), (("B", "A"), ("C", "A"))):
                with self.subTest(item=item, ahead=ahead):
                    self.assertEqual(plan_error(3, 2, (*ahead, item)), (len(ahead), "pair"))

    def test_no_word(self):
        for word in (*ODD_VALUES, "D", "r", "a", "P", "", "and", ("A",), ("not", "A")):
            with self.subTest(word=word):
                self.assertEqual(plan_error(3, 2, ((word, "A"),)), (0, "word"))
                self.assertEqual(plan_error(3, 2, (("B", "A"), (word, None))), (1, "word"))

    def test_words_of_the_vocabulary(self):
        for kinds in range(4):
            for letters in range(3):
                words = words_in_order(kinds, letters)
                for word in "ABCpq":
                    value = ((word, ("and",)),)
                    self.assertEqual(plan_error(kinds, letters, value), None if word in words else (0, "word"))
                    value = (("A", word),)
                    if kinds > 0:
                        error = None if word in words else (0, "formula")
                        self.assertEqual(plan_error(kinds, letters, value), error)

    def test_twice(self):
        self.assertEqual(plan_error(2, 1, (("A", "B"), ("A", "B"))), (1, "twice"))
        self.assertEqual(plan_error(2, 1, (("A", "B"), ("B", "A"), ("p", "p"), ("A", None))), (3, "twice"))
        self.assertEqual(plan_error(2, 1, (("A", "B"), ("B", "A"), ("p", "p"), ("p", "A"))), (3, "twice"))
        self.assertEqual(plan_error(1, 0, (("A", ("and",)),) * 9999), (1, "twice"))

    def test_formulas(self):
        for formula in ODD_VALUES:
            if formula != "":
                self.assertEqual(plan_error(3, 2, (("A", formula),)), (0, "formula"))
                self.assertEqual(plan_error(3, 2, (("B", "A"), ("p", formula))), (1, "formula"))
        for formula, error in ((FORTY, None), (FORTY_ONE, "signs"), (deep(["not"] * 39, "A"), None),
                               (deep(["not"] * 40, "A"), "signs"), (deep(["not"] * 59, "A"), "signs"),
                               (("and", *["A"] * 58, "C"), "formula"), (("not",), "formula"), ("B", None)):
            self.assertEqual(plan_error(2, 1, (("A", formula),)), None if error is None else (0, error))
            self.assertEqual(plan_error(2, 1, (("p", formula),)), (0, error or "sentence"))
            self.assertEqual(plan_error(2, 1, (("p", ("or",)), ("B", formula))), None if error is None else (1, error))

    def test_sentences(self):
        for formula, expected in (("A", "sentence"), (("some", "A"), None), (("and", "q", ("not", "A")), "sentence"),
                                  (("or",), None), (("all", ("not", "A")), None), ("q", None), ("p", None),
                                  (("and", ("some", "A"), "A"), "sentence")):
            for word in ("p", "q"):
                value = (("B", formula), (word, formula))
                self.assertEqual(plan_error(2, 2, value), None if expected is None else (1, expected))
            self.assertIsNone(plan_error(2, 2, (("B", formula), ("A", formula))))

    def test_the_first_error(self):
        long = ("and", "A", *["p"] * 40)
        for item, error in (([], "pair"), (("D", None), "word"), (("A", None), "twice"), (("p", None), "formula"),
                            (("p", long), "signs"), (("p", "A"), "sentence")):
            for behind in ([], ("D", "A"), ("A", "A"), ("q", None), ("q", long), ("q", "A")):
                self.assertEqual(plan_error(2, 2, (("A", "B"), item, behind)), (1, error))
        self.assertEqual(plan_error(2, 2, (("A", "C"), ("A", "B"))), (0, "formula"))
        self.assertEqual(plan_error(2, 2, (("A", "B"), ("A", "C"))), (1, "twice"))

    def test_large_values(self):
        with soon(2):
            self.assertEqual(plan_error(3, 2, ("A",) * 9999), (0, "pair"))
            self.assertEqual(plan_error(3, 2, (("A", ("and", *["A"] * 9990)),)), (0, "signs"))
            self.assertEqual(plan_error(3, 2, (("A", ("and", *["A"] * 9990, "D")),)), (0, "formula"))
            self.assertEqual(plan_error(3, 2, (("x" * 4000, "A"),)), (0, "word"))


class TestRing(unittest.TestCase):
    def test_none(self):
        for plan in ((), (("A", "B"),), (("A", ("and",)),), (("A", "B"), ("B", "C")), (("p", ("some", "A")),),
                     (("A", ("and", "B", "C")), ("B", "C"), ("C", "p"), ("p", "q"), ("q", ("or",)))):
            self.assertIsNone(ring(plan))

    def test_one_word(self):
        self.assertEqual(ring((("A", "A"),)), ("A",))
        self.assertEqual(ring((("p", ("not", "p")),)), ("p",))
        self.assertEqual(ring((("B", ("or", "B", "A")), ("A", ("and", "A", "B")))), ("A",))
        self.assertEqual(ring((("A", "B"), ("B", "A"), ("q", "q"))), ("q",))

    def test_longer_ones(self):
        self.assertEqual(ring((("B", "A"), ("A", "B"))), ("A", "B"))
        self.assertEqual(ring((("C", "B"), ("B", "A"), ("A", "C"))), ("A", "C", "B"))
        self.assertEqual(ring((("A", "B"), ("B", "C"), ("C", "A"))), ("A", "B", "C"))
        plan = (("q", "p"), ("p", ("some", "C")), ("C", "B"), ("B", "A"), ("A", "q"))
        self.assertEqual(ring(plan), ("A", "q", "p", "C", "B"))
        # The first word has part in no ring, and the second one hangs on a ring.
        self.assertEqual(ring((("A", "B"), ("B", "C"), ("C", "p"), ("p", ("some", "C")))), ("C", "p"))

    def test_the_shortest_and_the_first(self):
        self.assertEqual(ring((("A", ("and", "B", "C")), ("B", ("and", "A", "C")), ("C", ("and", "A", "B")))),
                         ("A", "B"))
        self.assertEqual(ring((("A", "C"), ("B", "p"), ("C", "A"), ("p", ("some", "B")))), ("A", "C"))
        self.assertEqual(ring((("A", "B"), ("B", "C"), ("C", "A"), ("p", "q"), ("q", "p"))), ("p", "q"))
        plan = (("A", ("or", "B", "C")), ("B", ("or", "C", "p")), ("C", "p"), ("p", ("some", "A")))
        self.assertEqual(ring(plan), ("A", "B", "p"))
        self.assertEqual(ring((("A", "C"), *plan[1:])), ("A", "C", "p"))

    def test_words_that_are_no_words_of_the_plan(self):
        self.assertIsNone(ring((("A", ("and", "B", "p")), ("C", "B"))))
        self.assertEqual(ring((("A", ("and", "B", "p")), ("p", ("some", ("and", "A", "B"))))), ("A", "p"))

    def test_against_the_reference(self):
        rng = drawn("rings")
        lengths = set()
        for turn in range(3000):
            words = words_in_order(3, 2)
            plan = some_plan(rng, words) if turn % 3 == 0 else tuple(
                (word, ("and", *[("some", other) for other in words
                                 if rng.random() < (0.02 if other == word else 0.3)]))
                for word in rng.sample(words, rng.randint(2, 5)))
            self.assertIsNone(plan_error(3, 2, plan))
            found = ring(plan)
            self.assertEqual(found, ring_by_all(plan))
            lengths.add(0 if found is None else len(found))
        self.assertLessEqual({0, 1, 2, 3, 4}, lengths)

    def test_a_ring_of_all_words_in_each_order(self):
        words = words_in_order(3, 2)
        for behind in itertools.permutations(words[1:]):
            turn = (words[0], *behind)
            plan = tuple((word, ("some", following)) for word, following in zip(turn, turn[1:] + turn[:1]))
            self.assertEqual(ring(tuple(reversed(plan))), turn)
            with self.assertRaises(Ringed) as caught:
                unwound(plan)
            self.assertEqual(caught.exception.ring, turn)


class TestUnwound(unittest.TestCase):
    def test_ordinary(self):
        self.assertEqual(unwound(()), ())
        self.assertEqual(unwound((("A", ("and", "B", "C")),)), (("A", ("and", "B", "C")),))
        plan = (("A", ("and", "B", "p")), ("B", ("not", "C")), ("p", ("some", "B")))
        self.assertEqual(unwound(plan), (("A", ("and", ("not", "C"), ("some", ("not", "C")))), ("B", ("not", "C")),
                                         ("p", ("some", ("not", "C")))))

    def test_the_order_of_the_pairs_does_not_matter(self):
        plan = (("A", ("and", "B", "p")), ("B", ("not", "C")), ("C", ("or", "q", "p")), ("p", ("some", ("or",))))
        expected = dict(unwound(plan))
        for turned in itertools.permutations(plan):
            found = unwound(turned)
            self.assertEqual([word for word, _ in found], [word for word, _ in turned])
            self.assertEqual(dict(found), expected)

    def test_words_that_stand_in_several_places(self):
        plan = (("q", ("and", "p", ("not", "p"))), ("p", ("some", ("and", "A", "A"))), ("A", ("or", "B", "B")))
        inner = ("or", "B", "B")
        letter = ("some", ("and", inner, inner))
        self.assertEqual(unwound(plan), (("q", ("and", letter, ("not", letter))), ("p", letter), ("A", inner)))

    def test_ringed(self):
        for plan in ((("A", "A"),), (("A", "B"), ("B", "A")), (("C", "p"), ("p", ("all", "C")), ("A", "C"))):
            with self.assertRaises(Ringed) as caught:
                unwound(plan)
            self.assertEqual(caught.exception.ring, ring(plan))

    def test_ringed_ahead_of_too_long(self):
        long = (("A", ("and", *["B"] * 39)), ("B", ("and", *["C"] * 39)), ("C", ("or", *["p"] * 39)))
        with self.assertRaises(TooLong):
            unwound(long)
        for more, expected in ((("q", "q"), ("q",)), (("p", ("some", "A")), ("A", "B", "C", "p"))):
            for plan in ((*long, more), (more, *long)):
                with self.assertRaises(Ringed) as caught:
                    unwound(plan)
                self.assertEqual(caught.exception.ring, expected)

    def test_too_long(self):
        def plan_with(places, many):
            # A comes to have 1 + places * many signs.
            return (("A", ("and", *["B"] * places)), ("B", ("and", *["C"] * (many - 1))))

        for extra in range(40):
            # 1 + 49 * 40 + extra signs, with a formula of more than MAX_SIGNS signs that is a result.
            plan = (("A", ("and", *["B"] * 49, *["C"] * extra)), ("B", ("and", *["C"] * 39)))
            if 1 + 49 * 40 + extra <= 2000:
                self.assertEqual(signs(unwound(plan)[0][1]), 1961 + extra)
            else:
                with self.assertRaises(TooLong) as caught:
                    unwound(plan)
                self.assertEqual(caught.exception.index, 0)
        self.assertEqual(signs(unwound(plan_with(39, 40))[0][1]), 1561)

    def test_two_thousand_signs_just_so(self):
        # 39 places with 40 signs and more, by words in between.
        for rest, fits in ((438, True), (439, True), (440, False)):
            filler = (("B", ("and", *["C"] * 39)), ("p", ("and", *["q"] * 39)))
            # 1 + 36 * 40 is 1441; p stands in 12 places more, each with 40 signs, 1921, and then single words.
            plan = (("A", ("and", *["B"] * 36, *["p"] * 12, *["C"] * (rest - 360))), *filler)
            if fits:
                self.assertEqual(signs(unwound(plan)[0][1]), 1921 + rest - 360)
            else:
                with self.assertRaises(TooLong) as caught:
                    unwound(plan)
                self.assertEqual(caught.exception.index, 0)

    def test_the_first_pair_in_the_order_of_the_plan(self):
        pairs = {"A": ("and", *["B"] * 39), "B": ("and", *["C"] * 39), "C": ("and", *["p"] * 39), "p": ("some", ("or",))}
        # C has 79 signs in the end, B more than 3000, A many more.
        for turned in itertools.permutations(pairs):
            plan = tuple((word, pairs[word]) for word in turned)
            with self.assertRaises(TooLong) as caught:
                unwound(plan)
            self.assertEqual(caught.exception.index, min(turned.index("A"), turned.index("B")))

    def test_not_written_out(self):
        # More than a hundred million signs, and with more words in it than could be looked at.
        plan = tuple((word, ("and", *[("some", after)] * 19, after)) for word, after in zip("ABCpq", "BCpqA"))
        plan = (*plan[:4], ("q", ("and", *[("some", ("or",))] * 19)))
        long = tuple((word, ("or", *[("some", after)] * 2900)) for word, after in zip("ABCp", "BCpq"))
        with soon(2):
            for each, index in ((plan, 0), (plan[::-1], 2), (long, 0), (long[::-1], 0)):
                with self.assertRaises(TooLong) as caught:
                    unwound(each)
                self.assertEqual(caught.exception.index, index)

    def test_against_the_reference(self):
        rng = drawn("unwound")
        results = []
        for turn in range(600):
            plan = layered_plan(rng, words_in_order(3, 2), (6, 14, 40)[turn % 3])
            self.assertIsNone(plan_error(3, 2, plan))
            expected = unwound_by_steps(plan, 2000)
            results.append(isinstance(expected, tuple))
            if results[-1]:
                self.assertEqual(unwound(plan), expected)
            else:
                with self.assertRaises(TooLong) as caught:
                    unwound(plan)
                self.assertEqual(caught.exception.index, expected)
        self.assertEqual(set(results), {True, False})

    def test_what_is_unwound_stays(self):
        rng = drawn("again")
        for _ in range(100):
            plan = layered_plan(rng, words_in_order(3, 2), 8)
            found = unwound(plan)
            self.assertEqual(unwound(found), found)
            for _, formula in found:
                self.assertFalse({word for word, _ in plan} & set(words_in(formula)))


class TestBookOf(unittest.TestCase):
    def test_ordinary(self):
        self.assertEqual(book_of(2, 1, ()), (2, 1, ()))
        plan = (("p", ("some", "A")), ("A", ("not", "B")))
        letter = ("or", ("and", "p", ("some", "A")), ("and", ("not", "p"), ("not", ("some", "A"))))
        kind = ("all", ("or", ("and", "A", ("not", "B")), ("and", ("not", "A"), ("not", ("not", "B")))))
        self.assertEqual(book_of(2, 1, plan), (2, 1, (letter, kind)))
        self.assertEqual(book_of(3, 2, plan[::-1]), (3, 2, (kind, letter)))
        self.assertIsNone(book_error(book_of(2, 1, plan)))

    def test_too_long(self):
        # A rule has 7 signs and 2 for each of the formula's; of a kind, one more.
        for many in range(2, 40):
            sentence = ("and", *["p"] * (many - 1))
            formula = ("and", *["B"] * (many - 1))
            for pair, length in ((("q", sentence), 7 + 2 * many), (("A", formula), 8 + 2 * many)):
                for ahead in ((), (("B", "C"),), (("B", "C"), ("p", "p"))):
                    plan = (*ahead, pair)
                    if length <= 40:
                        self.assertEqual(signs(book_of(3, 2, plan)[2][-1]), length)
                    else:
                        with self.assertRaises(TooLong) as caught:
                            book_of(3, 2, (*plan, ("C", FORTY)))
                        self.assertEqual(caught.exception.index, len(ahead))

    def test_with_a_ring(self):
        plan = (("A", "B"), ("B", "A"), ("p", "p"))
        self.assertEqual(len(book_of(2, 1, plan)[2]), 3)
        self.assertIsNone(book_error(book_of(2, 1, plan)))
        for turned, index in (((*plan, ("q", ("all", FORTY))), 3), ((("A", FORTY), *plan[1:]), 0)):
            with self.assertRaises(TooLong) as caught:
                book_of(2, 2, turned)
            self.assertEqual(caught.exception.index, index)

    def test_books_of_plans(self):
        rng = drawn("books of plans")
        for _ in range(200):
            plan = some_plan(rng, words_in_order(3, 2))
            book = book_of(3, 2, plan)
            self.assertIsNone(book_error(book))
            self.assertEqual(len(book[2]), len(plan))

    def test_long_results(self):
        with soon(2), self.assertRaises(TooLong) as caught:
            book_of(1, 1, (("p", ("some", ("and", *["A"] * 5990))),))
        self.assertEqual(caught.exception.index, 0)


class TestPutAway(unittest.TestCase):
    def test_ordinary(self):
        book = (2, 1, (("all", ("or", ("not", "A"), "B")), ("or", ("not", "p"), ("all", "A"))))
        self.assertEqual(put_away(book, "A", ("and", "B", "p")),
                         (2, 1, (("all", ("or", ("not", ("and", "B", "p")), "B")),
                                 ("or", ("not", "p"), ("all", ("and", "B", "p"))))))
        self.assertEqual(put_away(book, "p", ("some", "B")),
                         (2, 1, (book[2][0], ("or", ("not", ("some", "B")), ("all", "A")))))
        self.assertEqual(put_away((2, 1, ()), "p", ("some", "B")), (2, 1, ()))
        self.assertEqual(put_away(book, "A", ("or",)), put_away(book, "A", other=("or",)))

    def test_a_word_that_does_not_stand_there(self):
        book = (3, 2, (("all", ("or", ("not", "A"), "B")), ("and", *["p"] * 39)))
        self.assertEqual(put_away(book, "C", ("and", *["A"] * 39)), book)
        self.assertEqual(put_away(book, "q", ("some", ("and", *["A"] * 38))), book)

    def test_too_long(self):
        for many in range(1, 42):
            other = "B" if many == 1 else ("or", *["B"] * (many - 1))
            for places in range(1, 8):
                rule = ("some", ("and", *["A"] * places, "p"))
                length = 3 + places * many
                for ahead in ((), ("p",), (("some", "A"), "p", ("some", "C"))):
                    book = (3, 1, (*ahead, rule))
                    if len(ahead) == 3 and 1 + many > 40:
                        length_of_first, index = 1 + many, 0
                    else:
                        length_of_first, index = length, len(ahead)
                    if length_of_first <= 40:
                        self.assertEqual(signs(put_away(book, "A", other)[2][-1]), length)
                    else:
                        with self.assertRaises(TooLong) as caught:
                            put_away(book, "A", other)
                        self.assertEqual(caught.exception.index, index)

    def test_long_results(self):
        book = (2, 2, ("q",) + (("some", ("and", *["A"] * 38)),) * 5)
        with soon(2):
            for _ in range(20):
                with self.assertRaises(TooLong) as caught:
                    put_away(book, "A", ("and", *["B"] * 5999))
                self.assertEqual(caught.exception.index, 1)
        self.assertEqual(put_away(book, "B", ("and", *["A"] * 5999)), book)

    def test_against_the_reference(self):
        rng = drawn("put away")
        results = []
        for _ in range(500):
            book = some_book(rng, 3, 2, 6)
            words = words_in_order(3, 2)
            word = rng.choice(words)
            made = some_sentence if word in LETTERS else some_formula
            other = made(rng, [each for each in words if each != word], rng.randint(2, 8))
            rules = tuple(replaced(rule, word, other) for rule in book[2])
            long = [at for at, rule in enumerate(rules) if signs(rule) > 40]
            results.append(len(long) > 0)
            if long:
                with self.assertRaises(TooLong) as caught:
                    put_away(book, word, other)
                self.assertEqual(caught.exception.index, long[0])
            else:
                self.assertEqual(put_away(book, word, other), (3, 2, rules))
                self.assertIsNone(book_error(put_away(book, word, other)))
        self.assertEqual(set(results), {True, False})


if __name__ == "__main__":
    unittest.main()
