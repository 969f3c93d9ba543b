"""Points 12 and 13: shelves, their edits, and what they tell of their books."""

import copy
import unittest

from tellwords.bounds import MAX_EDITS
from tellwords.books import book_error
from tellwords.errors import (
    BadBook, BadTellers, Full, Loosened, NoRule, NothingToRedo, NothingToUndo, NoWord,
)
from tellwords.shelves import FirmShelf, Shelf
from tellwords.telling import is_pair, is_written, pair, told, written
from tests.helpers import (
    ODD_VALUES, deep, drawn, iff, some_book, some_sentence, soon, subsets, vocabularies, words_in_order,
)

BOOK = (2, 1, (("all", ("or", ("not", "A"), "B")), ("or", ("not", "p"), ("all", "A"))))
BEHIND = ("or", "p", ("all", ("not", "A")))
FULL = (2, 1, (*BOOK[2], BEHIND))
NO_WORLD = (1, 1, (("all", "A"), ("some", ("not", "A"))))
FORTY_ONE = ("and", *["p"] * 40)

# Values that are no index of a rule, of however many rules.
NO_INDEXES = (None, True, False, -1, -2, 6, 10 ** 39, -(10 ** 39), "0", "", (), (0,), [0], [], {}, {0: 0}, b"0")


class Checked(unittest.TestCase):
    def check_raised(self, error, attribute, expected, call, *arguments):
        """Whether a call raises just this error, with this attribute."""
        with self.assertRaises(error) as caught:
            call(*arguments)
        self.assertIs(type(caught.exception), error)
        if attribute is not None:
            self.assertEqual(getattr(caught.exception, attribute), expected)
            self.assertIs(type(getattr(caught.exception, attribute)), type(expected))

    def check_state(self, shelf, book, version):
        """Whether all that a shelf shows of itself is that of this book and version."""
        self.assertEqual(shelf.book, book)
        self.assertEqual(shelf.version, version)
        self.assertEqual(len(shelf), len(book[2]))
        self.assertEqual(list(shelf), list(book[2]))
        self.assertEqual([shelf[at] for at in range(len(book[2]))], list(book[2]))
        for rule in book[2]:
            self.assertIs(rule in shelf, True)


class TestNew(Checked):
    def test_books(self):
        for book in (BOOK, FULL, NO_WORLD, (0, 1, ()), (3, 2, (("and",),) * 6)):
            self.check_state(Shelf(book), book, 0)
            self.check_state(Shelf(value=book), book, 0)

    def test_no_books(self):
        for value in (*ODD_VALUES, (4, 1, ()), (0, 0, ()), (1, True, ()), (1, 1, [("all", "A")]), (1, 1, ("A",)),
                      (1, 1, ("p", FORTY_ONE)), list(BOOK), (*BOOK, ()), Shelf(BOOK)):
            with self.subTest(value=value):
                self.check_raised(BadBook, "error", book_error(value), Shelf, value)
                self.check_raised(BadBook, "error", book_error(value), FirmShelf, value, "A", ("B", "p"))

    def test_limit(self):
        self.assertEqual(Shelf.LIMIT, MAX_EDITS)
        self.assertIs(type(Shelf.LIMIT), int)
        self.assertEqual(Shelf(BOOK).LIMIT, 40)
        self.assertEqual(FirmShelf.LIMIT, 40)


class TestEdits(Checked):
    def test_ordinary(self):
        shelf = Shelf(BOOK)
        self.assertEqual(shelf.add(BEHIND), 1)
        self.check_state(shelf, FULL, 1)
        self.assertEqual(shelf.drop(0), 2)
        self.check_state(shelf, (2, 1, FULL[2][1:]), 2)
        self.assertEqual(shelf.turn(1, "p"), 3)
        self.check_state(shelf, (2, 1, (FULL[2][1], "p")), 3)
        self.assertEqual(shelf.drop(1), 4)
        self.assertEqual(shelf.drop(0), 5)
        self.check_state(shelf, (2, 1, ()), 5)
        self.assertEqual(shelf.add(("or",)), 6)
        self.check_state(shelf, (2, 1, (("or",),)), 6)

    def test_by_name(self):
        shelf = Shelf(value=BOOK)
        self.assertEqual(shelf.add(value=BEHIND), 1)
        self.assertEqual(shelf.turn(value="p", index=0), 2)
        self.assertEqual(shelf.turn(index=2, value=("not", "p")), 3)
        self.assertEqual(shelf.drop(value=1), 4)
        self.assertEqual(shelf.book, (2, 1, ("p", ("not", "p"))))

    def test_each_index(self):
        rules = tuple(("some", ("and", *["A"] * many)) for many in range(6))
        for at in range(6):
            shelf = Shelf((1, 1, rules))
            shelf.drop(at)
            self.assertEqual(shelf.book, (1, 1, rules[:at] + rules[at + 1:]))
            shelf.undo()
            shelf.turn(at, "p")
            self.assertEqual(shelf.book, (1, 1, (*rules[:at], "p", *rules[at + 1:])))

    def test_what_changes_nothing_is_an_edit(self):
        shelf = Shelf(BOOK)
        self.assertEqual(shelf.turn(0, BOOK[2][0]), 1)
        self.assertEqual(shelf.turn(0, BOOK[2][0]), 2)
        self.check_state(shelf, BOOK, 2)
        shelf.undo()
        self.assertEqual(shelf.turn(1, BOOK[2][1]), 2)
        self.check_raised(NothingToRedo, None, None, shelf.redo)
        self.check_state(shelf, BOOK, 2)

    def test_no_index(self):
        for many in range(7):
            shelf = Shelf((1, 1, ("p",) * many))
            for value in (*NO_INDEXES, many, many + 1):
                with self.subTest(value=value, many=many):
                    self.check_raised(NoRule, "index", value, shelf.drop, value)
                    self.check_raised(NoRule, "index", value, shelf.turn, value, "p")
                    self.check_raised(NoRule, "index", value, shelf.turn, value, "A")
            self.check_state(shelf, (1, 1, ("p",) * many), 0)

    def test_bad_books(self):
        shelf = Shelf((1, 1, ("p", ("some", "A"))))
        for value, error in ((None, "formula"), ("A", "sentence"), ("B", "formula"), ("q", "formula"), ([], "formula"),
                             (FORTY_ONE, "signs"), (("not", "A"), "sentence"), (("some", "B"), "formula"),
                             (["some", "A"], "formula"), (True, "formula"), (deep(["not"] * 59, "p"), "signs")):
            with self.subTest(value=value):
                self.check_raised(BadBook, "error", (2, error), shelf.add, value)
                self.check_raised(BadBook, "error", (0, error), shelf.turn, 0, value)
                self.check_raised(BadBook, "error", (1, error), shelf.turn, 1, value)
        self.check_state(shelf, (1, 1, ("p", ("some", "A"))), 0)

    def test_seven_rules(self):
        shelf = Shelf((1, 1, ("p",) * 6))
        for value in ("p", "A", None, FORTY_ONE):
            self.check_raised(BadBook, "error", (None, "rules"), shelf.add, value)
        self.assertEqual(shelf.turn(5, ("not", "p")), 1)
        self.assertEqual(shelf.drop(0), 2)
        self.assertEqual(shelf.add("p"), 3)
        self.check_state(shelf, (1, 1, ("p",) * 4 + (("not", "p"), "p")), 3)

    def test_forty_edits(self):
        shelf = Shelf((0, 1, ("p",)))
        for many in range(40):
            self.assertEqual(shelf.turn(0, ("not", "p") if many % 2 == 0 else "p"), many + 1)
        for call, arguments in ((shelf.add, ("p",)), (shelf.add, (None,)), (shelf.drop, (0,)), (shelf.drop, (7,)),
                                (shelf.drop, ([],)), (shelf.turn, (0, "p")), (shelf.turn, (9, "A")),
                                (shelf.turn, (0, "A")), (shelf.turn, (None, None))):
            self.check_raised(Full, None, None, call, *arguments)
        self.check_state(shelf, (0, 1, ("p",)), 40)
        self.check_raised(NothingToRedo, None, None, shelf.redo)
        self.assertEqual(shelf.undo(), 39)
        self.check_raised(NoRule, "index", 7, shelf.drop, 7)
        self.assertEqual(shelf.redo(), 40)
        self.check_raised(Full, None, None, shelf.drop, 7)
        self.assertEqual(shelf.undo(), 39)
        self.assertEqual(shelf.drop(0), 40)
        self.check_raised(Full, None, None, shelf.add, "p")
        for many in range(40):
            self.assertEqual(shelf.undo(), 39 - many)
        self.check_raised(NothingToUndo, None, None, shelf.undo)
        self.check_state(shelf, (0, 1, ("p",)), 0)
        for many in range(40):
            self.assertEqual(shelf.redo(), many + 1)
        self.check_raised(NothingToRedo, None, None, shelf.redo)
        self.check_state(shelf, (0, 1, ()), 40)

    def test_the_first_error(self):
        shelf = Shelf((0, 1, ("p",)))
        self.check_raised(NoRule, "index", 1, shelf.turn, 1, "A")
        self.check_raised(NoRule, "index", True, shelf.turn, True, None)
        self.check_raised(NoRule, "index", "A", shelf.turn, "A", "A")
        self.check_raised(BadBook, "error", (0, "formula"), shelf.turn, 0, "A")


class TestUndoAndRedo(Checked):
    def test_nothing(self):
        for shelf in (Shelf(BOOK), FirmShelf(FULL, "A", ("B", "p"))):
            self.check_raised(NothingToUndo, None, None, shelf.undo)
            self.check_raised(NothingToRedo, None, None, shelf.redo)

    def test_ordinary(self):
        shelf = Shelf(BOOK)
        shelf.add(BEHIND)
        shelf.drop(0)
        self.assertEqual(shelf.undo(), 1)
        self.check_state(shelf, FULL, 1)
        self.assertEqual(shelf.undo(), 0)
        self.check_state(shelf, BOOK, 0)
        self.check_raised(NothingToUndo, None, None, shelf.undo)
        self.assertEqual(shelf.redo(), 1)
        self.check_state(shelf, FULL, 1)
        self.assertEqual(shelf.redo(), 2)
        self.check_state(shelf, (2, 1, FULL[2][1:]), 2)
        self.check_raised(NothingToRedo, None, None, shelf.redo)

    def test_edits_forget_what_was_taken_back(self):
        for edit in (lambda shelf: shelf.add("p"), lambda shelf: shelf.drop(0), lambda shelf: shelf.turn(0, "p")):
            shelf = Shelf(BOOK)
            shelf.add(BEHIND)
            shelf.add("p")
            shelf.undo()
            shelf.undo()
            edit(shelf)
            self.check_raised(NothingToRedo, None, None, shelf.redo)
            self.assertEqual(shelf.undo(), 0)
            self.assertEqual(shelf.redo(), 1)
            self.check_raised(NothingToRedo, None, None, shelf.redo)

    def test_a_redo_forgets_nothing(self):
        shelf = Shelf(BOOK)
        for rule in ("p", ("not", "p"), ("some", "A")):
            shelf.add(rule)
        for _ in range(3):
            shelf.undo()
        for turn in range(1, 4):
            self.assertEqual(shelf.redo(), turn)
            self.assertEqual(shelf.undo(), turn - 1)
            self.assertEqual(shelf.redo(), turn)
        self.check_state(shelf, (2, 1, (*BOOK[2], "p", ("not", "p"), ("some", "A"))), 3)

    def test_what_raises_forgets_nothing(self):
        shelf = Shelf(BOOK)
        shelf.add(BEHIND)
        shelf.undo()
        for call, arguments in ((shelf.add, ("A",)), (shelf.drop, (2,)), (shelf.turn, (0, "A")), (shelf.turn, (5, "p")),
                                (shelf.undo, ()), (shelf.told, ("C", ())), (shelf.pair, ("A", ("A",)))):
            with self.assertRaises((BadBook, NoRule, NothingToUndo, NoWord, BadTellers)):
                call(*arguments)
            self.check_state(shelf, BOOK, 0)
        self.assertEqual(shelf.redo(), 1)
        self.check_state(shelf, FULL, 1)

    def test_full_forgets_nothing(self):
        shelf = Shelf(BOOK)
        for _ in range(20):
            shelf.add("p")
            shelf.drop(2)
        self.check_raised(Full, None, None, shelf.add, "p")
        for _ in range(40):
            shelf.undo()
        for _ in range(40):
            shelf.redo()
        self.check_raised(Full, None, None, shelf.drop, 0)
        self.assertEqual(shelf.version, 40)

    def test_against_lists_of_books(self):
        rng = drawn("edits")
        done = {"add": 0, "drop": 0, "turn": 0, "undo": 0, "redo": 0}
        for turn in range(40):
            kinds, letters = vocabularies()[turn % 11]
            book = some_book(rng, kinds, letters, 4)
            shelf = Shelf(book)
            # All books so far, the one that is kept now being that with index now.
            books, now = [book], 0
            for _ in range(120):
                name = rng.choice(["add", "add", "drop", "turn", "turn", "undo", "redo", "redo"])
                if name in ("undo", "redo"):
                    step = now + (1 if name == "redo" else -1)
                    if 0 <= step < len(books):
                        now = step
                        done[name] += 1
                        self.assertEqual(getattr(shelf, name)(), now)
                    else:
                        error = NothingToRedo if name == "redo" else NothingToUndo
                        self.check_raised(error, None, None, getattr(shelf, name))
                else:
                    arguments, following, error = self.some_edit(rng, name, books[now], now)
                    if error is None:
                        books = [*books[:now + 1], following]
                        now += 1
                        done[name] += 1
                        self.assertEqual(getattr(shelf, name)(*arguments), now)
                    else:
                        self.check_raised(*error, getattr(shelf, name), *arguments)
                self.check_state(shelf, books[now], now)
        self.assertGreater(min(done.values()), 50)

    def some_edit(self, rng, name, book, version):
        """Arguments of an edit, the book that it leads to, and what is raised instead or None."""
        kinds, letters, rules = book
        rule = some_sentence(rng, words_in_order(kinds, letters), rng.randint(2, 44))
        index = rng.randint(-1, len(rules))
        if name == "add":
            arguments, following = (rule,), (*rules, rule)
        else:
            put = (rule,) if name == "turn" else ()
            arguments, following = (index, *put), (*rules[:max(index, 0)], *put, *rules[index + 1:])
        if version == 40:
            return arguments, None, (Full, None, None)
        if name != "add" and not 0 <= index < len(rules):
            return arguments, None, (NoRule, "index", index)
        error = book_error((kinds, letters, following))
        return arguments, (kinds, letters, following), error and (BadBook, "error", error)


class TestTelling(Checked):
    def test_what_the_functions_return(self):
        rng = drawn("shelves tell")
        for turn in range(22):
            kinds, letters = vocabularies()[turn % 11]
            shelf = Shelf(some_book(rng, kinds, letters, 4))
            words = words_in_order(kinds, letters)
            for edit in range(3):
                if edit > 0:
                    shelf.add(some_sentence(rng, words, 8))
                word = rng.choice(words)
                for tellers in subsets([other for other in words if other != word]):
                    for method, function in ((shelf.told, told), (shelf.written, written), (shelf.pair, pair)):
                        self.assertEqual(method(word, tellers), function(shelf.book, word, tellers))
                        self.assertEqual(method(tellers=tellers, word=word), function(shelf.book, word, tellers))

    def test_the_example(self):
        shelf = Shelf(BOOK)
        self.assertIs(shelf.told("A", ("B", "p")), False)
        self.assertIsNone(shelf.written("A", ("B", "p")))
        self.assertTrue(is_pair(BOOK, "A", ("B", "p"), shelf.pair("A", ("B", "p"))))
        shelf.add(BEHIND)
        self.assertIs(shelf.told("A", ("B", "p")), True)
        self.assertTrue(is_written(FULL, "A", ("B", "p"), shelf.written("A", ("B", "p"))))
        self.assertIsNone(shelf.pair("A", ("B", "p")))
        shelf.undo()
        self.assertIs(shelf.told("A", ("B", "p")), False)

    def test_no_word(self):
        shelf = Shelf(BOOK)
        for value in (*ODD_VALUES, "C", "q", ("A",), ["A"], "AB", True):
            for tellers in ((), ("B",), ("A",), None, ["B"]):
                for call in (shelf.told, shelf.written, shelf.pair):
                    self.check_raised(NoWord, "value", value, call, value, tellers)
        for kinds, letters in vocabularies():
            for word in "ABCpq":
                if word in words_in_order(kinds, letters):
                    self.assertIs(Shelf((kinds, letters, ())).told(word, ()), False)
                else:
                    self.check_raised(NoWord, "value", word, Shelf((kinds, letters, ())).told, word, ())

    def test_bad_tellers(self):
        shelf = Shelf(FULL)
        for value in (*ODD_VALUES, ("p", "B"), ("B", "B"), ("A", "B"), ("B", "C"), ("C",), ("q",), ["B"], "B", "p",
                      ("B", "p", "p"), ("B", None), (("B",),), {"B": "p"}, ("Bp",), ("B", "p", "q")):
            if value not in ((), ("p",)):
                with self.subTest(value=value):
                    for call in (shelf.told, shelf.written, shelf.pair):
                        self.check_raised(BadTellers, "value", value, call, "A", value)
        for word, others in (("A", ("B", "p")), ("B", ("A", "p")), ("p", ("A", "B"))):
            for tellers in subsets(("A", "B", "p")):
                if set(tellers) <= set(others):
                    self.assertEqual(shelf.told(word, tellers), told(FULL, word, tellers))
                else:
                    self.check_raised(BadTellers, "value", tellers, shelf.told, word, tellers)

    def test_the_value_that_was_handed_in(self):
        shelf = Shelf(FULL)
        value = ["B", {"p": []}]
        for call, error in ((lambda: shelf.told(value, ()), NoWord), (lambda: shelf.written("A", value), BadTellers),
                            (lambda: FirmShelf(FULL, value, ()), NoWord),
                            (lambda: FirmShelf(FULL, "A", value), BadTellers)):
            with self.assertRaises(error) as caught:
                call()
            self.assertIs(caught.exception.value, value)
        for call in (lambda: shelf.drop(value), lambda: shelf.turn(value, "p"), lambda: shelf[value]):
            with self.assertRaises(NoRule) as caught:
                call()
            self.assertIs(caught.exception.index, value)
        self.assertEqual(value, ["B", {"p": []}])


class TestTwin(Checked):
    def test_a_new_shelf(self):
        shelf = Shelf(BOOK)
        shelf.add(BEHIND)
        shelf.add("p")
        shelf.undo()
        twin = shelf.twin()
        self.assertIs(type(twin), Shelf)
        self.assertIsNot(twin, shelf)
        self.check_state(twin, FULL, 0)
        self.check_raised(NothingToUndo, None, None, twin.undo)
        self.check_raised(NothingToRedo, None, None, twin.redo)
        self.assertEqual(twin, shelf)
        self.assertEqual(shelf.redo(), 2)

    def test_shelves_do_not_change_one_another(self):
        for shelf in (Shelf(FULL), FirmShelf(FULL, "p", ("A",))):
            twin = shelf.twin()
            twin.drop(0)
            self.check_state(shelf, FULL, 0)
            shelf.add(("some", "B"))
            self.check_state(twin, (2, 1, FULL[2][1:]), 1)
            twin.undo()
            self.check_state(twin, FULL, 0)
            self.check_state(shelf, (2, 1, (*FULL[2], ("some", "B"))), 1)
            shelf.undo()
            self.assertEqual(shelf, twin)
            self.check_raised(NothingToUndo, None, None, shelf.undo)
            twin.redo()
            self.check_state(shelf, FULL, 0)
            other = type(shelf)(*[shelf.book] if type(shelf) is Shelf else [shelf.book, shelf.word, shelf.tellers])
            other.drop(0)
            self.check_state(shelf, FULL, 0)

    def test_of_a_firm_shelf(self):
        shelf = FirmShelf(FULL, "A", ("B", "p"))
        shelf.add("p")
        twin = shelf.twin()
        self.assertIs(type(twin), FirmShelf)
        self.assertEqual((twin.word, twin.tellers), ("A", ("B", "p")))
        self.check_state(twin, (2, 1, (*FULL[2], "p")), 0)
        self.check_raised(NothingToUndo, None, None, twin.undo)
        self.assertEqual(twin, shelf)

    def test_a_full_shelf(self):
        shelf = Shelf((0, 1, ()))
        for _ in range(20):
            shelf.add("p")
            shelf.drop(0)
        self.check_raised(Full, None, None, shelf.add, "p")
        self.assertEqual(shelf.twin().add("p"), 1)


class TestContainer(Checked):
    def test_index(self):
        shelf = Shelf(FULL)
        for at in range(3):
            self.assertEqual(shelf[at], FULL[2][at])
        for value in (*NO_INDEXES, 3, 4, slice(0, 1), slice(None)):
            with self.subTest(value=value), self.assertRaises(NoRule) as caught:
                shelf[value]
            self.assertIs(caught.exception.index, value)
        shelf.drop(2)
        with self.assertRaises(NoRule):
            shelf[2]
        with self.assertRaises(NoRule):
            Shelf((0, 1, ()))[0]

    def test_in(self):
        shelf = Shelf(FULL)
        for rule in FULL[2]:
            self.assertIs(rule in shelf, True)
            self.assertIs(rule not in shelf, False)
            self.assertIs(list(rule) in shelf, False)
        for value in (*ODD_VALUES, "p", "A", FULL, FULL[2], shelf, 0, 1, ("all", ["or", ("not", "A"), "B"])):
            with self.subTest(value=value):
                self.assertIs(value in shelf, False)
        for value in ODD_VALUES:
            self.assertIs(value in Shelf((1, 1, ())), False)
        self.assertIs("p" in Shelf((0, 1, ("p",))), True)
        self.assertIs(BEHIND in Shelf(BOOK), False)

    def test_len_and_truth(self):
        self.assertEqual([len(Shelf((0, 1, ("p",) * many))) for many in range(7)], list(range(7)))

    def test_walks(self):
        shelf = Shelf(FULL)
        self.assertEqual(list(shelf), list(FULL[2]))
        self.assertEqual([(one, other) for one in shelf for other in shelf],
                         [(one, other) for one in FULL[2] for other in FULL[2]])
        self.assertEqual(list(Shelf((0, 1, ()))), [])

    def test_walks_with_edits_amid_them(self):
        for edit in (lambda shelf: shelf.add("p"), lambda shelf: shelf.drop(0), lambda shelf: shelf.turn(2, "p"),
                     lambda shelf: shelf.drop(len(shelf) - 1), lambda shelf: shelf.undo()):
            for when in range(3):
                shelf = Shelf(BOOK)
                shelf.add(BEHIND)
                gone = []
                for at, rule in enumerate(shelf):
                    gone.append(rule)
                    if at == when:
                        edit(shelf)
                self.assertEqual(gone, list(FULL[2]))
                self.assertNotEqual(shelf.book, FULL)
                self.assertEqual(list(shelf), list(shelf.book[2]))

    def test_walks_begun_ahead_of_edits(self):
        shelf = Shelf(FULL)
        walk = iter(shelf)
        shelf.drop(0)
        other = iter(shelf)
        shelf.drop(0)
        self.assertEqual(next(walk), FULL[2][0])
        self.assertEqual(next(other), FULL[2][1])
        shelf.undo()
        shelf.drop(1)
        self.assertEqual(list(walk), list(FULL[2][1:]))
        self.assertEqual(list(other), list(FULL[2][2:]))

    def test_walks_within_walks_with_edits(self):
        shelf = Shelf(FULL)
        gone = []
        for rule in shelf:
            gone.append((rule, [other for other in shelf]))
            shelf.drop(0)
        rules = list(FULL[2])
        self.assertEqual(gone, [(rules[0], rules), (rules[1], rules[1:]), (rules[2], rules[2:])])

    def test_equal(self):
        shelf = Shelf(FULL)
        edited = Shelf(BOOK)
        edited.add(BEHIND)
        self.check_equal(shelf, shelf, True)
        self.check_equal(shelf, Shelf(FULL), True)
        self.check_equal(shelf, edited, True)
        self.check_equal(shelf, Shelf(BOOK), False)
        self.check_equal(Shelf((1, 1, ("p",))), Shelf((2, 1, ("p",))), False)
        self.check_equal(Shelf((1, 1, ("p",))), Shelf((1, 2, ("p",))), False)
        self.check_equal(Shelf((1, 1, ("p", "p"))), Shelf((1, 1, ("p",))), False)
        self.check_equal(Shelf((1, 1, ())), Shelf((1, 1, ())), True)
        edited.undo()
        self.check_equal(shelf, edited, False)

    def check_equal(self, one, other, expected):
        for left, right in ((one, other), (other, one)):
            self.assertIs(left == right, expected)
            self.assertIs(left != right, not expected)

    def test_other_values(self):
        for shelf in (Shelf(FULL), Shelf((0, 1, ())), FirmShelf(FULL, "A", ("p",))):
            for value in (*ODD_VALUES, FULL, FULL[2], list(FULL), Shelf, object()):
                with self.subTest(value=value):
                    self.check_equal(shelf, value, False)

    def test_classes_differ(self):
        shelf, firm = Shelf(FULL), FirmShelf(FULL, "A", ("p",))
        self.check_equal(shelf, firm, False)
        # Python asks the class below first; the class above has to know it, too.
        self.assertIs(shelf.__eq__(firm), False)
        self.assertIs(firm.__eq__(shelf), False)

    def test_firm_shelves(self):
        shelf = FirmShelf(FULL, "A", ("p",))
        self.check_equal(shelf, FirmShelf(FULL, "A", ("p",)), True)
        self.check_equal(shelf, FirmShelf(FULL, "A", ("B", "p")), False)
        self.check_equal(shelf, FirmShelf(FULL, "p", ("A",)), False)
        more = FirmShelf(FULL, "A", ("p",))
        more.add("p")
        self.check_equal(shelf, more, False)
        more.undo()
        self.check_equal(shelf, more, True)
        same = (2, 0, (iff("A", ("not", "B")),))
        self.check_equal(FirmShelf(same, "A", ("B",)), FirmShelf(same, "B", ("A",)), False)
        book = (2, 0, (("all", "A"), ("all", "B")))
        self.check_equal(FirmShelf(book, "A", ()), FirmShelf(book, "B", ()), False)


class TestReadOnly(Checked):
    def test_properties(self):
        shelf = FirmShelf(FULL, "A", ("p",))
        for name in ("book", "version", "word", "tellers"):
            before = getattr(shelf, name)
            with self.subTest(name):
                with self.assertRaises(AttributeError):
                    setattr(shelf, name, before)
                with self.assertRaises(AttributeError):
                    delattr(shelf, name)
                self.assertEqual(getattr(shelf, name), before)
        plain = Shelf(BOOK)
        for name in ("book", "version"):
            with self.assertRaises(AttributeError):
                setattr(plain, name, getattr(plain, name))

    def test_up_to_date(self):
        shelf = Shelf(BOOK)
        for version, edit in enumerate((lambda: shelf.add("p"), lambda: shelf.turn(2, ("not", "p")),
                                        lambda: shelf.drop(0)), start=1):
            before = shelf.book
            edit()
            self.assertNotEqual(shelf.book, before)
            self.assertEqual(shelf.version, version)
        shelf.undo()
        self.assertEqual((shelf.book, shelf.version), ((2, 1, (*BOOK[2], ("not", "p"))), 2))

    def test_results_do_not_change_later(self):
        shelf = Shelf(FULL)
        results = [shelf.book, shelf[0], shelf.written("A", ("p",)), shelf.pair("B", ()), list(shelf), shelf.version]
        before = copy.deepcopy(results)
        for _ in range(3):
            shelf.drop(0)
        shelf.undo()
        self.assertEqual(results, before)


class TestFirmShelf(Checked):
    def test_ordinary(self):
        shelf = FirmShelf(FULL, "A", ("B", "p"))
        self.assertIsInstance(shelf, Shelf)
        self.assertEqual((shelf.word, shelf.tellers), ("A", ("B", "p")))
        self.check_state(shelf, FULL, 0)
        shelf = FirmShelf(tellers=(), word="p", value=(1, 1, ("p",)))
        self.assertEqual((shelf.word, shelf.tellers), ("p", ()))
        self.assertEqual(shelf.add(value=("some", "A")), 1)
        self.check_state(shelf, (1, 1, ("p", ("some", "A"))), 1)

    def test_loosened(self):
        with self.assertRaises(Loosened) as caught:
            FirmShelf(BOOK, "A", ("B", "p"))
        self.assertTrue(is_pair(BOOK, "A", ("B", "p"), caught.exception.worlds))
        for word, tellers in (("B", ("A", "p")), ("A", ()), ("p", ("B",))):
            with self.assertRaises(Loosened) as caught:
                FirmShelf(FULL, word, tellers)
            self.assertTrue(is_pair(FULL, word, tellers, caught.exception.worlds))

    def test_the_first_error(self):
        bad = (2, 1, ("A",))
        self.check_raised(BadBook, "error", (0, "sentence"), FirmShelf, bad, None, None)
        self.check_raised(BadBook, "error", (None, "book"), FirmShelf, None, "A", ("B",))
        self.check_raised(NoWord, "value", "C", FirmShelf, BOOK, "C", None)
        self.check_raised(NoWord, "value", None, FirmShelf, BOOK, None, ("B", "p"))
        self.check_raised(BadTellers, "value", ("A",), FirmShelf, BOOK, "A", ("A",))
        self.check_raised(BadTellers, "value", ["B"], FirmShelf, FULL, "A", ["B"])
        self.check_raised(BadTellers, "value", ("p", "B"), FirmShelf, FULL, "A", ("p", "B"))

    def test_any_values(self):
        for value in ODD_VALUES:
            self.check_raised(NoWord, "value", value, FirmShelf, FULL, value, value)
            if value not in ((), ("p",)):
                self.check_raised(BadTellers, "value", value, FirmShelf, FULL, "A", value)

    def test_edits_that_loosen(self):
        shelf = FirmShelf(FULL, "A", ("B", "p"))
        for call, arguments, following in (
                (shelf.drop, (1,), (FULL[2][0], BEHIND)), (shelf.drop, (2,), BOOK[2]),
                (shelf.turn, (2, "p"), None), (shelf.turn, (1, "p"), (FULL[2][0], "p", BEHIND)),
                (shelf.turn, (2, ("some", "B")), (*BOOK[2], ("some", "B")))):
            book = (2, 1, following or (*BOOK[2], "p"))
            if told(book, "A", ("B", "p")):
                self.assertEqual(call(*arguments), 1)
                self.assertEqual(shelf.undo(), 0)
            else:
                with self.assertRaises(Loosened) as caught:
                    call(*arguments)
                self.assertTrue(is_pair(book, "A", ("B", "p"), caught.exception.worlds))
            self.check_state(shelf, FULL, 0)
        self.assertEqual(shelf.drop(0), 1)
        self.assertEqual(shelf.add("p"), 2)
        self.assertEqual(shelf.drop(1), 3)
        self.check_state(shelf, (2, 1, (FULL[2][1], "p")), 3)

    def test_other_errors_ahead_of_loosened(self):
        shelf = FirmShelf((1, 1, ("p",) * 1), "p", ())
        self.check_raised(NoRule, "index", 1, shelf.drop, 1)
        self.check_raised(NoRule, "index", None, shelf.turn, None, ("and",))
        self.check_raised(BadBook, "error", (0, "sentence"), shelf.turn, 0, "A")
        self.check_raised(Loosened, None, None, shelf.turn, 0, ("and",))
        self.check_raised(Loosened, None, None, shelf.drop, 0)
        for many in range(40):
            shelf.turn(0, ("not", "p") if many % 2 == 0 else "p")
        self.check_raised(Full, None, None, shelf.drop, 0)
        self.check_raised(Full, None, None, shelf.turn, 0, ("and",))
        shelf.undo()
        self.check_raised(Loosened, None, None, shelf.drop, 0)

    def test_loosened_forgets_nothing(self):
        shelf = FirmShelf((1, 1, ("p",)), "p", ())
        shelf.add("p")
        shelf.drop(0)
        shelf.undo()
        shelf.undo()
        self.check_raised(Loosened, None, None, shelf.drop, 0)
        self.assertEqual(shelf.redo(), 1)
        self.assertEqual(shelf.redo(), 2)
        self.check_state(shelf, (1, 1, ("p",)), 2)

    def test_undo_and_redo_never_loosen(self):
        rng = drawn("firm")
        raised = 0
        for turn in range(30):
            kinds, letters = [(1, 1), (2, 0), (2, 1), (1, 2)][turn % 4]
            words = words_in_order(kinds, letters)
            word = words[turn % len(words)]
            tellers = tuple(other for other in words if other != word)
            definition = iff(word, some_sentence(rng, tellers, rng.randint(2, 8)))
            shelf = FirmShelf((kinds, letters, (definition,)), word, tellers)
            for _ in range(25):
                version = shelf.version
                try:
                    rng.choice([
                        lambda: shelf.add(rng.choice([definition, some_sentence(rng, words, 4)])),
                        lambda: shelf.drop(rng.randrange(len(shelf))),
                        lambda: shelf.turn(rng.randrange(len(shelf)), some_sentence(rng, words, 4)),
                    ])()
                    self.assertEqual(shelf.version, version + 1)
                except (Loosened, BadBook) as error:
                    raised += type(error) is Loosened
                    self.assertEqual(shelf.version, version)
                for _ in range(rng.randint(0, 1)):
                    if shelf.version > 0:
                        shelf.undo()
                        if rng.random() < 0.5:
                            shelf.redo()
                self.assertIs(told(shelf.book, word, tellers), True)
                self.assertIs(shelf.told(word, tellers), True)
        self.assertGreater(raised, 30)

    def test_tells_of_other_words_too(self):
        shelf = FirmShelf(FULL, "A", ("p",))
        self.assertIs(shelf.told("B", ("A", "p")), False)
        self.assertTrue(is_pair(FULL, "B", ("A",), shelf.pair("B", ("A",))))
        self.assertTrue(is_written(FULL, "p", ("A",), shelf.written("p", ("A",))))
        self.check_raised(NoWord, "value", "C", shelf.told, "C", ())
        self.check_raised(BadTellers, "value", ("B",), shelf.told, "B", ("B",))

    def test_a_book_without_a_world(self):
        shelf = FirmShelf(NO_WORLD, "A", ())
        self.check_raised(Loosened, None, None, shelf.drop, 0)
        self.assertEqual(shelf.drop(1), 1)
        self.assertEqual(shelf.add(("or",)), 2)
        self.assertEqual(shelf.drop(0), 3)
        self.check_state(shelf, (1, 1, (("or",),)), 3)


class TestQuick(Checked):
    def test_many_edits_of_large_books(self):
        rng = drawn("quick shelves")
        rules = [some_sentence(rng, "ABCpq", 40) for _ in range(12)]
        definition = iff("A", ("and", "B", ("some", "C"), ("or", "p", "q")))
        with soon(5):
            shelf = FirmShelf((3, 2, (definition, *rules[:5])), "A", ("B", "C", "p", "q"))
            for many in range(40):
                shelf.turn(1 + many % 5, rules[many % 12])
            for _ in range(40):
                shelf.undo()
            for _ in range(40):
                shelf.redo()
            shelf.twin().drop(1)

    def test_large_values(self):
        shelf = Shelf(BOOK)
        for value in ([None] * 9999, ("and", *["p"] * 9997, "D"), "x" * 4000, ((),) * 9998, -(10 ** 40 - 1)):
            with soon(2):
                self.check_raised(BadBook, "error", (2, "formula"), shelf.add, value)
                self.check_raised(NoRule, "index", value, shelf.drop, value)
                self.check_raised(NoWord, "value", value, shelf.told, value, value)
                self.check_raised(BadTellers, "value", value, shelf.told, "A", value)
                self.assertIs(value in shelf, False)
                self.assertIs(shelf == value, False)


if __name__ == "__main__":
    unittest.main()
