"""Point 2: the conventions, for all functions that there are."""

import copy
import unittest

from tellwords import (
    books, counting, errors, formulas, lots, rings, shelves, short, telling, texts, worlds,
)
from tests.helpers import ODD_VALUES, deep, iff, soon

W = (("p",), (("A",), (), ("A", "B")))

# A book, a pair of its worlds, and what a call of a function that looks at it is passed.
BOOK = (2, 1, (("all", ("or", ("not", "A"), "B")), iff("p", ("some", "B"))))
PAIR = (("p",), (("A", "B"),)), (("p",), (("B",),))
TOLD = {"book": BOOK, "word": "p", "tellers": ("A", "B")}
NOT_TOLD = {"book": BOOK, "word": "A", "tellers": ("B", "p")}
PLAN = (("p", ("some", "A")), ("A", ("not", "B")))

# Each function with arguments by name and what it returns for them.
CALLS = (
    (formulas.words_of, {"kinds": 2, "letters": 1}, ("A", "B", "p")),
    (formulas.formula_error, {"kinds": 1, "letters": 0, "value": "B"}, "formula"),
    (formulas.formula_error, {"kinds": 2, "letters": 0, "value": ("not", "B")}, None),
    (formulas.signs, {"formula": ("and", "A", ("not", "p"))}, 4),
    (formulas.is_sentence, {"formula": ("not", "p")}, True),
    (formulas.is_sentence, {"formula": ("not", "A")}, False),
    (formulas.words_in, {"formula": ("and", "q", "A", "A")}, ("A", "q")),
    (formulas.replaced, {"formula": ("and", "A", "B"), "word": "A", "other": ("or", "B")},
     ("and", ("or", "B"), "B")),
    (worlds.is_world, {"kinds": 2, "letters": 1, "value": W}, True),
    (worlds.is_world, {"kinds": 1, "letters": 1, "value": W}, False),
    (worlds.holds, {"world": W, "sentence": ("some", "B")}, True),
    (worlds.holds, {"world": W, "sentence": ("all", "B")}, False),
    (worlds.holds_of, {"world": W, "formula": "A"}, (0, 2)),
    (worlds.seen, {"world": W, "tellers": ("A",)}, ((), (("A",), (), ("A",)))),
    (worlds.frame_of, {"world": W}, (("p",), ((), ("A",), ("A", "B")))),
    (books.book_error, {"value": BOOK}, None),
    (books.book_error, {"value": (2, 1, ("p", "A"))}, (1, "sentence")),
    (books.keeps, {"book": BOOK, "value": PAIR[0]}, True),
    (books.keeps, {"book": BOOK, "value": W}, False),
    (books.frames, {"book": (1, 1, (iff("p", ("all", "A")),))},
     (((), ((),)), ((), ((), ("A",))), (("p",), (("A",),)))),
    (books.follows, {"book": BOOK, "sentence": ("or", "p", ("not", ("some", "A")))}, True),
    (books.follows, {"book": BOOK, "sentence": ("some", "B")}, False),
    (books.against, {"book": BOOK, "sentence": ("or", "p", ("not", ("some", "A")))}, None),
    (books.against, {"book": (1, 1, (("all", "A"),)), "sentence": ("not", "p")}, (("p",), (("A",),))),
    (books.alike, {"book": BOOK, "one": ("and", "A", "B"), "other": "A"}, True),
    (books.alike, {"book": BOOK, "one": "A", "other": "p"}, False),
    (books.parting, {"book": BOOK, "one": ("and", "A", "B"), "other": "A"}, None),
    (books.parting, {"book": (1, 0, (("all", "A"),)), "one": "A", "other": ("or",)}, (((), (("A",),)), 0)),
    (telling.told, TOLD, True),
    (telling.told, NOT_TOLD, False),
    (telling.written, NOT_TOLD, None),
    (telling.is_written, {**TOLD, "value": ("some", "B")}, True),
    (telling.is_written, {**TOLD, "value": ("some", "A")}, False),
    (telling.pair, TOLD, None),
    (telling.is_pair, {**NOT_TOLD, "value": PAIR}, True),
    (telling.is_pair, {**TOLD, "value": PAIR}, False),
    (lots.least_tellers, {"book": BOOK, "word": "p"}, (("B",),)),
    (lots.least_tellers, {"book": BOOK, "word": "A"}, ()),
    (lots.least_lots, {"book": BOOK}, (("A", "B"),)),
    (lots.loose, {"book": BOOK}, ("A", "B")),
    (lots.free_words, {"book": (2, 1, BOOK[2][1:])}, ("A",)),
    (lots.reasons, TOLD, ((1,),)),
    (lots.reasons, NOT_TOLD, ()),
    (lots.fewest_dropped, TOLD, (1,)),
    (short.fewest_signs, TOLD, 2),
    (short.fewest_signs, NOT_TOLD, None),
    (short.short, TOLD, ("some", "B")),
    (short.short, NOT_TOLD, None),
    (counting.count_worlds, {"book": BOOK, "many": 2}, 9),
    (counting.count_seen, {"book": BOOK, "tellers": ("A",), "many": 2}, 4),
    (rings.plan_error, {"kinds": 2, "letters": 1, "value": PLAN}, None),
    (rings.plan_error, {"kinds": 1, "letters": 1, "value": PLAN}, (1, "formula")),
    (rings.ring, {"plan": PLAN}, None),
    (rings.ring, {"plan": (("A", "B"), ("B", "A"))}, ("A", "B")),
    (rings.unwound, {"plan": PLAN}, (("p", ("some", ("not", "B"))), ("A", ("not", "B")))),
    (rings.book_of, {"kinds": 2, "letters": 1, "plan": PLAN},
     (2, 1, (iff("p", ("some", "A")), iff("A", ("not", "B"))))),
    (rings.put_away, {"book": (2, 1, ("p", ("some", "A"))), "word": "A", "other": ("not", "B")},
     (2, 1, ("p", ("some", ("not", "B"))))),
    (texts.formula_text, {"formula": ("some", "A")}, "[some A]"),
    (texts.book_text, {"book": (1, 1, ("p", ("some", "A")))}, "1 1\np\n[some A]"),
    (texts.read_formula, {"kinds": 1, "letters": 0, "value": "[some A]"}, ("some", "A")),
    (texts.read_book, {"value": "1 1\np\n[some A]"}, (1, 1, ("p", ("some", "A")))),
)

# Each function that raises an error, with arguments by name, and what it raises.
RAISING = (
    (rings.unwound, {"plan": (("A", "B"), ("B", "A"))}, errors.Ringed, "ring", ("A", "B")),
    (rings.unwound, {"plan": (("B", "A"), ("A", ("and", *["C"] * 2000)))}, errors.TooLong, "index", 0),
    (rings.book_of, {"kinds": 2, "letters": 1, "plan": (("p", "p"), ("A", ("and", *["A"] * 16)))},
     errors.TooLong, "index", 1),
    (rings.put_away, {"book": (2, 1, ("p", ("some", "A"))), "word": "A", "other": ("and", *["B"] * 39)},
     errors.TooLong, "index", 1),
    (texts.read_formula, {"kinds": 1, "letters": 0, "value": None}, errors.BadText, "place", -1),
    (texts.read_formula, {"kinds": 1, "letters": 0, "value": "[and B"}, errors.BadText, "place", 5),
    (texts.read_formula, {"kinds": 1, "letters": 0, "value": "[and" + " A" * 40 + "]"}, errors.TooLong, "index", 0),
    (texts.read_book, {"value": None}, errors.BadText, "place", -1),
    (texts.read_book, {"value": "1 1\n"}, errors.BadText, "place", 0),
    (shelves.Shelf, {"value": None}, errors.BadBook, "error", (None, "book")),
    (shelves.FirmShelf, {"value": BOOK, "word": "C", "tellers": ()}, errors.NoWord, "value", "C"),
    (shelves.FirmShelf, {"value": BOOK, "word": "A", "tellers": "B"}, errors.BadTellers, "value", "B"),
)

# Calls for which any fitting result is right.
ANY_CALLS = (
    (telling.written, TOLD),
    (telling.pair, NOT_TOLD),
    (books.against, {"book": BOOK, "sentence": ("some", "B")}),
    (books.parting, {"book": BOOK, "one": "A", "other": "p"}),
    (short.short, {"book": (2, 0, (iff("A", ("not", "B")),)), "word": "A", "tellers": ("B",)}),
)


def nested(depth, within, value):
    """The value within so many lists, tuples or dicts."""
    for _ in range(depth):
        value = within(value)
    return value


def large_values():
    """Values at the edges of what an argument called value may be."""
    for within in (lambda value: [value], lambda value: (value,), lambda value: {"A": value},
                   lambda value: ("and", [value]), lambda value: ("and", "A", {1: value}),
                   lambda value: ((), value), lambda value: (value, ((),))):
        yield nested(29, within, None)
    yield [None] * 9999
    yield ("and", *[[]] * 9998)
    yield ("and", *["A"] * 9997, "D")
    yield ((), ((),) * 9990)
    yield (("p",) * 9990, ((),))
    yield ((), (("A",) * 9990,))
    yield ["x" * 4000] * 100
    yield "\n" * 4000
    yield -(10 ** 40 - 1)


class TestKindsOfValues(unittest.TestCase):
    def check_plain(self, value):
        self.assertIn(type(value), (tuple, int, str, bool, type(None)))
        if isinstance(value, tuple):
            for item in value:
                self.check_plain(item)

    def test_by_position_and_by_name(self):
        for function, arguments, expected in CALLS:
            with self.subTest(function.__name__, arguments=arguments):
                turned = dict(reversed(arguments.items()))
                for result in (function(**arguments), function(*arguments.values()), function(**turned)):
                    self.assertEqual(result, expected)
                    self.assertIs(type(result), type(expected))
                    self.check_plain(result)

    def test_any_fitting_result_is_plain(self):
        for function, arguments in ANY_CALLS:
            with self.subTest(function.__name__, arguments=arguments):
                turned = dict(reversed(arguments.items()))
                result = function(*arguments.values())
                self.check_plain(result)
                self.assertIsInstance(result, (tuple, str))
                self.assertEqual(function(**arguments), result)
                self.assertEqual(function(**turned), result)

    def test_equal_calls_return_equal_results(self):
        firsts = [function(**arguments) for function, arguments in ANY_CALLS]
        for _ in range(3):
            for function, arguments, expected in CALLS:
                self.assertEqual(function(**copy.deepcopy(arguments)), expected)
            for (function, arguments), first in zip(ANY_CALLS, firsts):
                self.assertEqual(function(**copy.deepcopy(arguments)), first)

    def test_true_and_false_are_no_words_and_no_worlds(self):
        for value in (True, False, 0, 1):
            for within in (value, (value,), ("and", value), (value, "A"), ("not", value)):
                self.assertEqual(formulas.formula_error(3, 2, within), "formula")
            for within in (value, ((), value), (value, ((),)), ((), (value,)), ((), ((value,),)),
                           ((value,), ((),))):
                self.assertIs(worlds.is_world(3, 2, within), False)

    def test_ascending_is_the_order_of_python(self):
        sorts = ((), ("A",), ("A", "B"), ("A", "B", "C"), ("A", "C"), ("B",), ("B", "C"), ("C",))
        self.assertEqual(sorts, tuple(sorted(sorts)))
        self.assertEqual(worlds.frame_of(((), sorts[::-1])), ((), sorts))
        self.assertEqual(formulas.words_of(3, 2), tuple(sorted("qpCBA")))


class TestErrors(unittest.TestCase):
    def test_by_position_and_by_name(self):
        for function, arguments, error, attribute, expected in RAISING:
            with self.subTest(function.__name__, arguments=arguments):
                turned = dict(reversed(arguments.items()))
                for call in (lambda: function(**arguments), lambda: function(*arguments.values()),
                             lambda: function(**turned)):
                    with self.assertRaises(error) as caught:
                        call()
                    self.assertIs(type(caught.exception), error)
                    self.assertEqual(getattr(caught.exception, attribute), expected)
                    self.assertIs(type(getattr(caught.exception, attribute)), type(expected))

    def test_any_pair_of_worlds(self):
        with self.assertRaises(errors.Loosened) as caught:
            shelves.FirmShelf(**{"tellers": ("B", "p"), "word": "A", "value": BOOK})
        self.assertIs(telling.is_pair(**NOT_TOLD, value=caught.exception.worlds), True)

    def test_the_same_behind_calls_that_raise(self):
        before = [function(**arguments) for function, arguments, _ in CALLS]
        for function, arguments, error, _, _ in RAISING:
            with self.assertRaises(error):
                function(**arguments)
            with self.assertRaises(error):
                function(**copy.deepcopy(arguments))
        self.assertEqual([function(**arguments) for function, arguments, _ in CALLS], before)


class TestAnyValue(unittest.TestCase):
    def test_odd_and_large_values(self):
        for value in (*ODD_VALUES, *large_values()):
            with soon():
                self.assertEqual(formulas.formula_error(3, 2, value), "formula")
                self.assertIs(worlds.is_world(3, 2, value), False)
                self.assertIsNotNone(books.book_error(value))
                self.assertIs(books.keeps(BOOK, value), False)
                self.assertIs(telling.is_written(**TOLD, value=value), False)
                self.assertIs(telling.is_pair(**NOT_TOLD, value=value), False)
                self.assertEqual(rings.plan_error(3, 2, value) is None, value == ())
                self.check_bad_text(value)
                self.check_no_shelf(value)

    def check_bad_text(self, value):
        with self.assertRaises(errors.BadText) as caught:
            texts.read_formula(3, 2, value)
        self.assertIs(caught.exception.place == -1, not isinstance(value, str))
        with self.assertRaises(errors.BadText) as caught:
            texts.read_book(value)
        self.assertEqual(caught.exception.place, 0 if isinstance(value, str) else -1)

    def check_no_shelf(self, value):
        with self.assertRaises(errors.BadBook) as caught:
            shelves.Shelf(value)
        self.assertEqual(caught.exception.error, books.book_error(value))
        with self.assertRaises(errors.NoWord) as caught:
            shelves.FirmShelf(BOOK, value, value)
        self.assertIs(caught.exception.value, value)
        shelf = shelves.Shelf(BOOK)
        for call, error in ((lambda: shelf.add(value), errors.BadBook), (lambda: shelf.turn(0, value), errors.BadBook),
                            (lambda: shelf.told(value, value), errors.NoWord)):
            with self.assertRaises(error):
                call()
        self.assertEqual((shelf.book, shelf.version), (BOOK, 0))
        self.assertIs(value in shelf, False)
        self.assertIs(shelf == value, False)
        self.assertIs(shelf != value, True)

    def test_odd_and_large_values_within_others(self):
        for value in (*ODD_VALUES, *large_values()):
            with soon():
                if not (type(value) is int and value in (0, 1)):
                    self.assertEqual(books.book_error((2, value, ())), (None, "letters"))
                self.assertEqual(books.book_error((2, 1, (value,))), (0, "formula"))
                if value != ("A", "B"):
                    self.assertIs(books.keeps(BOOK, (("p",), (("B",), value))), value == ())
                self.assertIs(telling.is_written(**TOLD, value=("or", ("some", "B"), value)), False)
                self.assertIs(telling.is_pair(**NOT_TOLD, value=(PAIR[0], value)), False)
                self.assertIs(telling.is_pair(**NOT_TOLD, value=(*PAIR, value)), False)
                self.assertEqual(rings.plan_error(2, 1, (*PLAN, value))[0], 2)
                self.assertEqual(rings.plan_error(2, 1, (*PLAN, ("B", value))), (2, "formula"))
                self.assertEqual(rings.plan_error(2, 1, (*PLAN, (value, "A"))), (2, "word"))

    def test_books_and_formulas_with_sixty_signs_as_any_values(self):
        long = ("and", *["p"] * 59)
        for rule, error in ((long, "signs"), (deep(["some", "not"] * 29, ("or", "A")), "signs"),
                            (deep(["all"] * 59, "C"), "formula")):
            book = (2, 1, ("p", rule))
            self.assertEqual(books.book_error(book), (1, error))
            for value in (book, rule):
                self.assertIs(books.keeps(BOOK, value), False)
                self.assertIs(telling.is_pair(**NOT_TOLD, value=value), False)
                self.assertIs(telling.is_written(**TOLD, value=value), False)

    def test_formulas_with_sixty_signs_however_deep(self):
        for value in (deep(["not"] * 59, "A"), deep(["some", "all", "and"] * 19, ("or", "A", "p"))):
            self.assertEqual(formulas.signs(value), 60)
            self.assertEqual(formulas.formula_error(3, 2, value), "signs")
            self.assertIs(worlds.is_world(3, 2, value), False)
            self.assertIs(worlds.is_world(3, 2, ((), (value,))), False)

    def test_results_with_parts_replaced(self):
        for odd in ODD_VALUES:
            result = formulas.replaced(("and", "A", deep(["some"] * 150, "B")), "A", deep(["not"] * 40, "A"))
            self.assertEqual(formulas.formula_error(3, 2, result), "signs")
            self.assertEqual(formulas.formula_error(3, 2, (*result, odd)), "formula")
            self.assertEqual(formulas.formula_error(3, 2, list(result)), "formula")
            yes, things = worlds.seen(W, ("A", "B", "p"))
            self.assertIs(worlds.is_world(2, 1, (yes, things)), True)
            self.assertIs(worlds.is_world(2, 1, (yes, list(things))), False)
            self.assertIs(worlds.is_world(2, 1, (yes, things, odd)), False)
            self.assertIs(worlds.is_world(2, 1, ((*yes, odd), things)), False)
            self.assertIs(worlds.is_world(2, 1, (yes, (*things, (*things[2], odd)))), False)

    def test_nothing_that_is_passed_is_changed(self):
        for value in (*ODD_VALUES, ("and", ["A", ["B"]], {"A": ["B"]}), [["and", "A"], {"p": []}],
                      ([], [[], ["A"]]), (["q", "p"], ((), ["B", "A"]))):
            before = copy.deepcopy(value)
            formulas.formula_error(3, 2, value)
            worlds.is_world(3, 2, value)
            books.book_error(value)
            books.book_error((2, 1, [value]))
            books.keeps(BOOK, value)
            telling.is_written(**TOLD, value=value)
            telling.is_pair(**NOT_TOLD, value=value)
            telling.is_pair(**NOT_TOLD, value=[value, value])
            rings.plan_error(2, 1, value)
            rings.plan_error(2, 1, (("A", value), [value]))
            if value != ():
                self.check_bad_text(value)
                self.check_no_shelf(value)
            self.assertEqual(value, before)

    def test_nothing_that_is_returned_changes_later(self):
        results = [function(**arguments) for function, arguments, _ in CALLS]
        before = copy.deepcopy(results)
        for function, arguments, _ in CALLS:
            function(**arguments)
        formulas.replaced(results[7], "B", ("not", "B"))
        worlds.seen(results[13], ())
        self.assertEqual(results, before)


class TestSomewhatBeyond(unittest.TestCase):
    def test_more_things_than_are_allowed(self):
        world = (("p",), (("A",), ()) * 20)
        self.assertEqual(worlds.holds_of(world, "A"), tuple(range(0, 40, 2)))
        self.assertIs(worlds.holds(world, ("all", "A")), False)
        self.assertEqual(worlds.frame_of(world), (("p",), ((), ("A",))))
        self.assertEqual(worlds.seen(world, ("p",)), (("p",), ((),) * 40))

    def test_more_and_longer_rules(self):
        rule = ("and", ("or", "q", ("not", "q")), *[("or", iff("p", ("some", "B")))] * 6)
        book = (2, 2, (rule,) * 8)
        self.assertEqual(books.book_error(book), (None, "rules"))
        self.assertEqual(books.book_error((2, 2, book[2][:6])), (0, "signs"))
        with soon():
            self.assertEqual(books.frames(book), books.frames((2, 2, (iff("p", ("some", "B")),))))
            self.assertIs(books.keeps(book, PAIR[0]), True)
            self.assertIs(telling.told(book, "p", ("A", "B")), True)
            self.assertIs(telling.is_written(book, "p", ("B",), telling.written(book, "p", ("B",))), True)
            self.assertEqual(lots.least_tellers(book, "p"), (("B",),))
            self.assertEqual(lots.reasons(book, "p", ("B",)), tuple((at,) for at in range(8)))
            self.assertEqual(lots.fewest_dropped(book, "p", ("B",)), tuple(range(8)))
            self.assertEqual(short.short(book, "p", ("B",)), ("some", "B"))

    def test_deeper_and_longer_formulas(self):
        formula = ("and", deep(["not"] * 300, "A"), *[("some", "B")] * 4000)
        with soon():
            self.assertEqual(formulas.signs(formula), 8302)
            self.assertIs(formulas.is_sentence(formula), False)
            self.assertEqual(formulas.words_in(formula), ("A", "B"))
            self.assertEqual(worlds.holds_of(W, formula), (0, 2))
            self.assertEqual(formulas.signs(formulas.replaced(formula, "A", "B")), 8302)


if __name__ == "__main__":
    unittest.main()
