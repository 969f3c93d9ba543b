"""Point 11: texts of formulas and books, and what is read from them."""

import re
import unittest

from tellwords.books import book_error
from tellwords.errors import BadText, TooLong
from tellwords.formulas import formula_error, signs
from tellwords.texts import book_text, formula_text, read_book, read_formula
from tests.helpers import (
    ODD_VALUES, deep, drawn, some_book, some_formula, soon, vocabularies, words_in_order,
)

BOOK = (2, 1, (("all", ("or", ("not", "A"), "B")), ("or", ("not", "p"), ("all", "A"))))
BOOK_TEXT = "2 1\n[all [or [not A] B]]\n[or [not p] [all A]]"

# Texts with what they are the texts of.
TEXTS = (
    ("A", "A"), ("q", "q"), ("[and]", ("and",)), ("[or]", ("or",)), ("[not A]", ("not", "A")),
    ("[some A]", ("some", "A")), ("[all p]", ("all", "p")), ("[and A]", ("and", "A")),
    ("[or A B C p q]", ("or", "A", "B", "C", "p", "q")), ("[and [or] [and]]", ("and", ("or",), ("and",))),
    ("[not [not [not [or]]]]", ("not", ("not", ("not", ("or",))))),
    ("[some [and A [not B]]]", ("some", ("and", "A", ("not", "B")))),
)

# All characters that a text may have, some more, and a line feed.
CHARACTERS = "[] ABCpqandorsmelt" + "DPr(),-01\n"


def part_texts(formula):
    """The text of a formula, said as the document says it."""
    if isinstance(formula, str):
        return formula
    return "[" + formula[0] + "".join(" " + part_texts(part) for part in formula[1:]) + "]"


def without_whole_parts(words, text):
    """The text with "F" for each word and for each tuple that ends in it."""
    text = text.replace("F", "?")
    for word in "ABCpq":
        text = text.replace(word, "F" if word in words else "?")
    shorter = None
    while shorter != text:
        shorter, text = text, re.sub(r"\[(?:(?:not|some|all) F|(?:and|or)(?: F)*)\]", "F", text)
    return text


def place_by_beginnings(words, text):
    """The place that BadText has to name for a text; None if it is the text of a formula.

    What is left of the beginning of a text are tuples that have begun, each one
    behind the head or behind parts of the one ahead, and then not much.
    """
    begun = r"(?:\[(?:not|some|all) |\[(?:and|or)(?: F)* )*"
    last = r"(?:|F|\[(?:|n|no|not|not F|s|so|som|some|some F|a|al|all|all F|an|o|(?:and|or)(?: F)*))"
    for place in range(len(text)):
        if not re.fullmatch(begun + last, without_whole_parts(words, text[:place + 1])):
            return place
    return None if without_whole_parts(words, text) == "F" else len(text)


def changed(rng, text):
    """The text with a character put in, left out or exchanged, two exchanged, or cut off."""
    at = rng.randrange(len(text) + 1)
    behind = text[at + 1:]
    return rng.choice([
        text[:at] + rng.choice(CHARACTERS) + text[at:],
        text[:at] + behind,
        text[:at] + rng.choice(CHARACTERS) + behind,
        text[:at] + behind[:1] + text[at:at + 1] + behind[1:],
        text[:at],
        text[:at] + text[at:at + rng.randint(1, 6)] + text[at:],
    ])


class Reading(unittest.TestCase):
    def check_bad(self, kinds, letters, value, place):
        with self.subTest(value=value), self.assertRaises(BadText) as caught:
            read_formula(kinds, letters, value)
        self.assertEqual(caught.exception.place, place)
        self.assertIs(type(caught.exception.place), int)

    def check_no_book(self, value, place=0):
        with self.subTest(value=value), self.assertRaises(BadText) as caught:
            read_book(value)
        self.assertEqual(caught.exception.place, place)


class TestWriting(unittest.TestCase):
    def test_formulas(self):
        for text, formula in TEXTS:
            with self.subTest(text):
                self.assertEqual(formula_text(formula), text)

    def test_books(self):
        self.assertEqual(book_text(BOOK), BOOK_TEXT)
        self.assertEqual(book_text((0, 1, ())), "0 1")
        self.assertEqual(book_text((3, 0, ())), "3 0")
        self.assertEqual(book_text((3, 2, (("and",), "q"))), "3 2\n[and]\nq")

    def test_against_the_reference(self):
        rng = drawn("written texts")
        for turn in range(200):
            formula = some_formula(rng, "ABCpq", turn % 40 + 1)
            self.assertEqual(formula_text(formula), part_texts(formula))
            book = some_book(rng, 3, 2)
            self.assertEqual(book_text(book), "\n".join(["3 2", *map(part_texts, book[2])]))

    def test_long_and_deep_results(self):
        with soon(2):
            self.assertEqual(formula_text(("and", *["A"] * 5999)), "[and" + " A" * 5999 + "]")
            self.assertEqual(formula_text(deep(["not"] * 200, "A")), "[not " * 200 + "A" + "]" * 200)
            wide = deep(["some"] * 190, ("or", *["p"] * 5800))
            self.assertEqual(formula_text(wide), "[some " * 190 + "[or" + " p" * 5800 + "]" * 191)


class TestReadFormula(Reading):
    def test_texts(self):
        for text, formula in TEXTS:
            with self.subTest(text):
                self.assertEqual(read_formula(3, 2, text), formula)

    def test_the_examples(self):
        self.assertEqual(read_formula(2, 0, "[some [and A [not B]]]"), ("some", ("and", "A", ("not", "B"))))
        self.check_bad(1, 0, "[and A B]", 7)
        self.check_bad(1, 0, "[and A", 6)

    def test_no_string(self):
        for value in ODD_VALUES:
            if not isinstance(value, str):
                self.check_bad(3, 2, value, -1)
        for value in (["A"], ("not", "A"), b"[and]", ("[and]",), {"A": 1}, True):
            self.check_bad(1, 0, value, -1)

    def test_odd_strings(self):
        for value in ODD_VALUES:
            if isinstance(value, str):
                self.check_bad(3, 2, value, place_by_beginnings("ABCpq", value))

    def test_places(self):
        for text, place in (
                ("", 0), (" ", 0), ("]", 0), ("a", 0), ("and", 0), ("(and)", 0), ("D", 0), ("\n", 0), ("P", 0),
                ("[", 1), ("[]", 1), ("[ and]", 1), ("[A", 1), ("[[", 1), ("[x", 1), ("[AND]", 1), ("[-", 1),
                ("[a", 2), ("[ap", 2), ("[a]", 2), ("[o]", 2), ("[so", 3), ("[an]", 3), ("[nor", 3), ("[som]", 4),
                ("[and", 4), ("[anda", 4), ("[andA]", 4), ("[not]", 4), ("[or", 3), ("[ord", 3), ("[orA", 3),
                ("[some]", 5), ("[all]", 4), ("[allA]", 4), ("[and ", 5), ("[and ]", 5), ("[and  A]", 5),
                ("[not ", 5), ("[not ]", 5), ("[not A", 6), ("[not A ", 6), ("[not A B]", 6), ("[not AB]", 6),
                ("[some A B]", 7), ("[all A B]", 6), ("[and A B", 8), ("[and A ]", 7), ("[and AB]", 6),
                ("[and a]", 5), ("[and and]", 5), ("AB", 1), ("A ", 1), ("A]", 1), ("A\n", 1), (" A", 0),
                ("[and] ", 5), ("[and]]", 5), ("[and]A", 5), ("[and][or]", 5), ("[and\nA]", 4), ("[and A\n]", 6),
                ("[not [and A] B]", 12), ("[not [and A]", 12), ("[and [", 6), ("[and [o", 7), ("[and [no]]", 8),
                ("[or [not A] [some]]", 17), ("[or [not A]  B]", 12), ("[not (A)]", 5)):
            self.check_bad(3, 2, text, place)
            self.assertEqual(place_by_beginnings("ABCpq", text), place)

    def test_words_of_other_vocabularies(self):
        for kinds, letters in vocabularies():
            words = words_in_order(kinds, letters)
            for word in "ABCpq":
                if word in words:
                    self.assertEqual(read_formula(kinds, letters, word), word)
                    self.assertEqual(read_formula(kinds, letters, f"[and {word}]"), ("and", word))
                else:
                    self.check_bad(kinds, letters, word, 0)
                    self.check_bad(kinds, letters, f"[and {word}]", 5)
                    self.check_bad(kinds, letters, f"[or {words[0]} {word}]", 6)
            self.assertEqual(read_formula(kinds, letters, "[not [or]]"), ("not", ("or",)))

    def test_a_text_and_each_beginning_of_it(self):
        rng = drawn("beginnings")
        for turn in range(60):
            text = formula_text(some_formula(rng, "ABCpq", turn % 40 + 1))
            for cut in range(len(text)):
                self.check_bad(3, 2, text[:cut], cut)
            for behind in ("]", " ", "A", "[", "\n", "x"):
                self.check_bad(3, 2, text + behind, len(text))

    def test_too_long(self):
        for many in range(35, 60):
            for text in ("[and" + " A" * (many - 1) + "]", "[or" + " [or]" * (many - 1) + "]",
                         "[not " * (many - 1) + "p" + "]" * (many - 1),
                         "[all " * (many - 1) + "[and]" + "]" * (many - 1)):
                if len(text) > 300:
                    continue
                words = text.count("[") + text.count(" A") + text.count("p")
                if words <= 40:
                    self.assertEqual(signs(read_formula(1, 1, text)), words)
                else:
                    with self.assertRaises(TooLong) as caught:
                        read_formula(1, 1, text)
                    self.assertEqual(caught.exception.index, 0)
                    self.check_bad(1, 1, text[:-1], len(text) - 1)
                    self.check_bad(1, 1, text + "]", len(text))

    def test_too_long_behind_bad_text(self):
        # The longest lines: whatever is wrong in them is told first.
        many = "[and" + " A" * 147
        self.assertLessEqual(len(many + " ]"), 300)
        self.check_bad(1, 0, many + "B]", len(many))
        self.check_bad(1, 0, many, len(many))
        self.check_bad(1, 0, many + " ]", len(many) + 1)
        with self.assertRaises(TooLong) as caught:
            read_formula(1, 0, many + "]")
        self.assertEqual(caught.exception.index, 0)
        self.check_bad(1, 0, "[or " * 75, 300)
        self.check_bad(1, 0, "[or " * 74 + "[o A", 298)
        self.check_bad(1, 0, "[or [" * 60, 5)
        self.check_bad(1, 0, "[or [or A] " * 27, 297)

    def test_lines_behind_one_another(self):
        with soon(2):
            self.check_bad(1, 0, "\n".join(["[and A]"] * 400), 7)
            self.check_bad(1, 0, "\n" * 4000, 0)

    def test_changed_texts_against_the_reference(self):
        rng = drawn("changed texts")
        results = set()
        for turn in range(4000):
            kinds, letters = vocabularies()[turn % 11]
            words = words_in_order(kinds, letters)
            text = formula_text(some_formula(rng, rng.choice(["ABCpq", words]), rng.randint(1, 16)))
            for _ in range(rng.randint(0, 2)):
                text = changed(rng, text)
            place = place_by_beginnings(words, text)
            results.add(None if place is None else place == len(text))
            if place is None:
                formula = read_formula(kinds, letters, text)
                self.assertIsNone(formula_error(kinds, letters, formula))
                self.assertEqual(formula_text(formula), text)
            else:
                self.check_bad(kinds, letters, text, place)
        self.assertEqual(results, {None, True, False})

    def test_there_and_back(self):
        rng = drawn("there and back")
        for turn in range(400):
            kinds, letters = vocabularies()[turn % 11]
            formula = some_formula(rng, words_in_order(kinds, letters), turn % 40 + 1)
            self.assertEqual(read_formula(kinds, letters, formula_text(formula)), formula)


class TestReadBook(Reading):
    def test_books(self):
        self.assertEqual(read_book(BOOK_TEXT), BOOK)
        self.assertEqual(read_book("0 1"), (0, 1, ()))
        self.assertEqual(read_book("3 2\n[and]\nq"), (3, 2, (("and",), "q")))
        for kinds, letters in vocabularies():
            self.assertEqual(read_book(f"{kinds} {letters}"), (kinds, letters, ()))

    def test_no_string(self):
        for value in ODD_VALUES:
            self.check_no_book(value, 0 if isinstance(value, str) else -1)
        for value in (BOOK, [BOOK_TEXT], (BOOK_TEXT,), b"2 1", 2, True):
            self.check_no_book(value, -1)

    def test_numbers_of_no_book(self):
        for line in ("0 0", "4 0", "0 3", "3 3", "4 2", "-1 1", "1 -1", "1 1 1", "1", "1 ", " 1", "", " ", "11",
                     "1  1", " 1 1", "1 1 ", "01 1", "1 01", "+1 1", "1 +1", "1\t1", "a b", "1,1", "1.0 1", "1_0 1",
                     "10 1", "1 10", "(1, 1)", "True True", "1 1\r", "0x1 1", "1 one"):
            for rules in ("", "\n[and]", "\np"):
                self.check_no_book(line + rules)

    def test_line_feeds(self):
        for value in ("\n" + BOOK_TEXT, BOOK_TEXT + "\n", BOOK_TEXT.replace("\n", "\n\n"), "2 1\n", "\n2 1", "2\n1",
                      "2 1 [and]", "2 1\n[and]\n", "2 1\n\n[and]", "2 1\n[and][or]", "2 1\n[and] [or]", "\n", "\n\n",
                      "2 1\n[and\n]", "2 1\n[and p\np]", BOOK_TEXT.replace("\n", " "), BOOK_TEXT.replace("\n", "\r\n")):
            self.check_no_book(value)

    def test_rules_of_no_book(self):
        for rule in ("A", "[or p A]", "[not A]", "C", "[some C]", "q", "[not]", "[and p p", "and p", "[some A] ",
                     " [some A]", "x", "[and" + " p" * 40 + "]", "[not " * 40 + "p" + "]" * 40,
                     "[some" + " A" * 39 + "]", "[and  p]", "[And p]"):
            self.check_no_book("2 1\n" + rule)
            self.check_no_book("2 1\np\n" + rule)
            self.check_no_book("2 1\n" + rule + "\np")

    def test_rules_of_other_vocabularies(self):
        for kinds, letters in vocabularies():
            for word in "ABCpq":
                text = f"{kinds} {letters}\n[all {word}]"
                if word in words_in_order(kinds, letters):
                    self.assertEqual(read_book(text), (kinds, letters, (("all", word),)))
                else:
                    self.check_no_book(text)

    def test_number_of_rules(self):
        for many in range(12):
            text = "\n".join(["1 1", *["[and p]"] * many])
            if many <= 6:
                self.assertEqual(read_book(text), (1, 1, (("and", "p"),) * many))
            else:
                self.check_no_book(text)
        with soon(2):
            self.check_no_book("1 1" + "\np" * 1990)
            self.check_no_book("1 1" + "\n[and" + " p" * 147 + "]" + "\n[and" + " p" * 147 + "]")

    def test_forty_signs(self):
        text = "[and" + " p" * 39 + "]"
        self.assertEqual(read_book("\n".join(["0 1", *[text] * 6])), (0, 1, (("and", *["p"] * 39),) * 6))
        self.check_no_book("\n".join(["0 1", *[text] * 5, text[:-1] + " p]"]))

    def test_there_and_back(self):
        rng = drawn("books there and back")
        for turn in range(300):
            kinds, letters = vocabularies()[turn % 11]
            book = some_book(rng, kinds, letters)
            text = book_text(book)
            self.assertEqual(read_book(text), book)
            self.assertEqual(text.count("\n"), len(book[2]))
            self.assertFalse(text.endswith("\n"))

    def test_changed_texts(self):
        rng = drawn("changed books")
        results = []
        for turn in range(1500):
            kinds, letters = vocabularies()[turn % 11]
            text = changed(rng, book_text(some_book(rng, kinds, letters, 3)))
            lines = text.split("\n")
            book = None
            if lines[0] in [f"{many} {more}" for many in range(4) for more in range(3)]:
                words = words_in_order(int(lines[0][0]), int(lines[0][2]))
                if all(place_by_beginnings(words, line) is None for line in lines[1:]):
                    book = (int(lines[0][0]), int(lines[0][2]), tuple(formula_of(line) for line in lines[1:]))
            results.append(book is not None and book_error(book) is None)
            if results[-1]:
                self.assertEqual(read_book(text), book)
            else:
                self.check_no_book(text)
        self.assertGreater(results.count(True), 50)
        self.assertGreater(results.count(False), 50)


def formula_of(text):
    """The formula of a text that is known to be one."""
    row = [[]]
    for token in text.replace("[", "[ ").replace("]", " ]").split():
        if token == "[":
            row.append([])
        elif token == "]":
            made = tuple(row.pop())
            row[-1].append(made)
        else:
            row[-1].append(token)
    return row[0][0]


if __name__ == "__main__":
    unittest.main()
