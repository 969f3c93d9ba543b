"""Point 3: vocabularies and formulas."""

import unittest

from tellwords.formulas import (
    formula_error, is_sentence, replaced, signs, words_in, words_of,
)
from tests.helpers import ODD_VALUES, deep, drawn, some_formula

ALL_A_ARE_B = ("all", ("or", ("not", "A"), "B"))
ALL_WORDS = ("A", "B", "C", "p", "q")


def signs_by_recursion(formula):
    if isinstance(formula, str):
        return 1
    return 1 + sum(signs_by_recursion(part) for part in formula[1:])


def words_by_recursion(formula):
    if isinstance(formula, str):
        return {formula}
    return {word for part in formula[1:] for word in words_by_recursion(part)}


def sentence_by_recursion(formula):
    if isinstance(formula, str):
        return formula in ("p", "q")
    return formula[0] in ("some", "all") or all(map(sentence_by_recursion, formula[1:]))


def replaced_by_recursion(formula, word, other):
    if isinstance(formula, str):
        return other if formula == word else formula
    return (formula[0], *(replaced_by_recursion(part, word, other) for part in formula[1:]))


class TestWordsOf(unittest.TestCase):
    def test_all_vocabularies(self):
        for kinds in range(4):
            for letters in range(3):
                if kinds + letters > 0:
                    with self.subTest(kinds=kinds, letters=letters):
                        words = ALL_WORDS[:kinds] + ALL_WORDS[3:3 + letters]
                        self.assertEqual(words_of(kinds, letters), words)
                        self.assertEqual(words, tuple(sorted(words)))

    def test_somewhat_beyond_the_bounds(self):
        self.assertEqual(words_of(4, 3), ALL_WORDS)
        self.assertEqual(words_of(0, 0), ())


class TestFormulaError(unittest.TestCase):
    def test_formulas(self):
        for value in ("A", "q", ("not", "A"), ("and",), ("or",), ("and", "A"), ("or", "p", "A", "p"),
                      ("some", "p"), ("all", ("some", ("and",))), ALL_A_ARE_B,
                      ("and", ("and", "A"), ("or",), ("not", ("not", "B")), "C")):
            with self.subTest(value=value):
                self.assertIsNone(formula_error(3, 2, value))

    def test_words_outside_the_vocabulary(self):
        for kinds in range(4):
            for letters in range(3):
                words = words_of(kinds, letters)
                for word in ALL_WORDS:
                    for value in (word, ("not", word), ("and", ("or",), ("some", ("or", word)))):
                        with self.subTest(kinds=kinds, letters=letters, value=value):
                            error = None if word in words else "formula"
                            self.assertEqual(formula_error(kinds, letters, value), error)

    def test_other_values(self):
        for value in ODD_VALUES:
            for within in (value, ("not", value), ("and", "A", value), ("all", ("or", value, "A"))):
                with self.subTest(value=within):
                    self.assertEqual(formula_error(3, 2, within), "formula")

    def test_heads_with_one_part_have_just_one(self):
        for head in ("not", "some", "all"):
            with self.subTest(head):
                self.assertIsNone(formula_error(1, 1, (head, "p")))
                self.assertEqual(formula_error(1, 1, (head,)), "formula")
                self.assertEqual(formula_error(1, 1, (head, "p", "p")), "formula")

    def test_forty_signs(self):
        for many in (39, 40, 41, 42, 60):
            error = None if many <= 40 else "signs"
            for value in (deep(["not"] * (many - 1), "A"),
                          deep((["some", "all"] * 30)[:many - 1], "A"),
                          ("and", *["A"] * (many - 1)),
                          ("or", *[("and",)] * (many - 1)),
                          ("or", "A", *[("or",)] * (many - 2))):
                with self.subTest(many=many, head=value[0]):
                    self.assertEqual(signs(value), many)
                    self.assertEqual(formula_error(1, 0, value), error)

    def test_formula_goes_ahead_of_signs(self):
        self.assertEqual(formula_error(1, 0, ("and", *["A"] * 50, "B")), "formula")
        self.assertEqual(formula_error(1, 0, ("and", "B", *["A"] * 50)), "formula")
        self.assertEqual(formula_error(1, 0, ("or", *["A"] * 50, ("not",))), "formula")
        self.assertEqual(formula_error(1, 0, deep(["not"] * 59, "p")), "formula")


class TestSigns(unittest.TestCase):
    def test_example(self):
        self.assertEqual(signs(ALL_A_ARE_B), 5)

    def test_each_place_counts(self):
        self.assertEqual(signs("A"), 1)
        self.assertEqual(signs(("and",)), 1)
        self.assertEqual(signs(("or", "A", "A", ("not", "A"))), 5)

    def test_against_recursion(self):
        rng = drawn("signs")
        for many in range(1, 61):
            formula = some_formula(rng, ALL_WORDS, many)
            self.assertEqual(signs(formula), many)
            self.assertEqual(signs_by_recursion(formula), many)


class TestIsSentence(unittest.TestCase):
    def test_examples(self):
        self.assertIs(is_sentence(ALL_A_ARE_B), True)
        self.assertIs(is_sentence(("and", "A", ("some", "B"))), False)

    def test_words_and_nothing(self):
        for word in ALL_WORDS:
            self.assertIs(is_sentence(word), word in ("p", "q"))
            self.assertIs(is_sentence(("not", ("or", word))), word in ("p", "q"))
            self.assertIs(is_sentence(("some", ("not", word))), True)
            self.assertIs(is_sentence(("all", ("or", "A", word))), True)
        self.assertIs(is_sentence(("and",)), True)
        self.assertIs(is_sentence(("or",)), True)

    def test_one_kind_in_the_open_is_enough(self):
        self.assertIs(is_sentence(("and", ("some", "A"), ("not", "A"))), False)
        self.assertIs(is_sentence(("or", ("not", "C"), "p")), False)
        self.assertIs(is_sentence(("and", ("some", "A"), ("not", ("all", "A")), "q")), True)

    def test_against_recursion(self):
        rng = drawn("sentences")
        for many in range(1, 41):
            for _ in range(10):
                formula = some_formula(rng, ALL_WORDS, many)
                self.assertIs(is_sentence(formula), sentence_by_recursion(formula))


class TestWordsIn(unittest.TestCase):
    def test_ascending_each_once(self):
        self.assertEqual(words_in("q"), ("q",))
        self.assertEqual(words_in(("and",)), ())
        self.assertEqual(words_in(("and", "q", "B", ("some", ("or", "A", "B", "p")))),
                         ("A", "B", "p", "q"))

    def test_against_recursion(self):
        rng = drawn("words")
        for many in range(1, 41):
            formula = some_formula(rng, ALL_WORDS, many)
            self.assertEqual(words_in(formula), tuple(sorted(words_by_recursion(formula))))


class TestReplaced(unittest.TestCase):
    def test_example(self):
        self.assertEqual(replaced(("some", ("and", "A", "p")), "A", ("not", "B")),
                         ("some", ("and", ("not", "B"), "p")))

    def test_all_places_at_once(self):
        self.assertEqual(replaced("A", "A", "B"), "B")
        self.assertEqual(replaced("A", "A", ("not", "A")), ("not", "A"))
        self.assertEqual(replaced(("and", "A", ("or", "A", "B")), "A", ("and", "A", "B")),
                         ("and", ("and", "A", "B"), ("or", ("and", "A", "B"), "B")))
        self.assertEqual(replaced(("or", "p", "q"), "p", "q"), ("or", "q", "q"))
        self.assertEqual(replaced(("or", "p", "A"), "p", ("some", ("and", "A", "p"))),
                         ("or", ("some", ("and", "A", "p")), "A"))

    def test_a_word_that_does_not_stand_in_it(self):
        for formula in ("B", ("and",), ("or",), ALL_A_ARE_B, ("and", ("or",), "q")):
            with self.subTest(formula=formula):
                self.assertEqual(replaced(formula, "C", ("not", "A")), formula)
                self.assertEqual(replaced(formula, "p", ("some", "A")), formula)

    def test_a_word_for_itself(self):
        self.assertEqual(replaced(ALL_A_ARE_B, "A", "A"), ALL_A_ARE_B)

    def test_against_recursion(self):
        rng = drawn("replaced")
        for many in range(1, 41):
            formula = some_formula(rng, ALL_WORDS, many)
            other = some_formula(rng, ALL_WORDS, rng.randint(1, 40))
            for word in ALL_WORDS:
                self.assertEqual(replaced(formula, word, other),
                                 replaced_by_recursion(formula, word, other))

    def test_six_thousand_signs(self):
        formula = ("and", *["A"] * 39)
        other = ("or", *["B"] * 152)
        result = replaced(formula, "A", other)
        self.assertEqual(result, ("and", *[other] * 39))
        self.assertEqual(signs(result), 1 + 39 * 153)
        self.assertEqual(words_in(result), ("B",))
        self.assertEqual(replaced(replaced(result, "B", "A"), "A", "B"), result)

    def test_two_hundred_tuples_within_one_another(self):
        formula = deep(["not", "some"] * 50, "A")
        result = replaced(formula, "A", deep(["and", "all"] * 50, "B"))
        self.assertEqual(result, deep(["not", "some"] * 50 + ["and", "all"] * 50, "B"))
        self.assertEqual(signs(result), 201)
        self.assertIs(is_sentence(result), True)
        self.assertIs(is_sentence(deep(["not"] * 200, "A")), False)
        self.assertEqual(words_in(result), ("B",))
        self.assertEqual(formula_error(2, 0, result), "signs")
        self.assertEqual(formula_error(1, 0, result), "formula")


if __name__ == "__main__":
    unittest.main()
