"""Point 1, (a) to (f), and what points 9 to 13 say of the other points."""

import unittest

from tellwords.books import alike, book_error, follows, frames
from tellwords.counting import count_seen, count_worlds
from tellwords.errors import BadBook, Loosened, TooLong
from tellwords.formulas import signs, words_in, words_of
from tellwords.lots import free_words, loose
from tellwords.rings import book_of, plan_error, put_away, ring, unwound
from tellwords.shelves import FirmShelf, Shelf
from tellwords.short import fewest_signs, short
from tellwords.telling import is_pair, is_written, pair, told, written
from tellwords.texts import book_text, formula_text, read_book, read_formula
from tellwords.worlds import frame_of, holds, seen
from tests.helpers import (
    LETTERS, all_worlds, drawn, iff, keeps_by_things, layered_plan, some_book, some_formula, some_sentence, subsets,
    vocabularies,
)

WORDS = ("A", "B", "C", "p", "q")


def others_of(words, word):
    """The words without one of them."""
    return tuple(other for other in words if other != word)


def books_drawn(seed, many, most=6):
    """Books of all vocabularies, drawn; with the words of each one."""
    rng = drawn(seed)
    for kinds, letters in vocabularies():
        for _ in range(many):
            yield rng, some_book(rng, kinds, letters, most), words_of(kinds, letters)


class TestWrittenOrPair(unittest.TestCase):
    def test_a_and_b(self):
        for rng, book, words in books_drawn("a and b", 6):
            shelf = Shelf(book)
            for word in words:
                for tellers in (others_of(words, word), rng.choice(subsets(others_of(words, word)))):
                    for question in ((told, written, pair), (
                            lambda _, *given: shelf.told(*given), lambda _, *given: shelf.written(*given),
                            lambda _, *given: shelf.pair(*given))):
                        yes, formula, worlds = [each(book, word, tellers) for each in question]
                        self.assertIs(formula is not None, yes)
                        self.assertIs(worlds is None, yes)
                        self.assertIs(is_written(book, word, tellers, formula), yes)
                        self.assertIs(is_pair(book, word, tellers, worlds), not yes)
                    brief = short(book, word, tellers)
                    self.assertIs(is_written(book, word, tellers, brief), brief is not None)
                    self.assertIs(brief is not None, fewest_signs(book, word, tellers) is not None)


class TestAnyNumberOfThings(unittest.TestCase):
    def test_told_as_the_numbers_say(self):
        # A word is told just if it tells no two worlds apart that look alike, of any number of things.
        results = []
        for rng, book, words in books_drawn("numbers", 3):
            for word in words:
                others = others_of(words, word)
                for tellers in (others, rng.choice(subsets(others))):
                    more = tuple(sorted((*tellers, word)))
                    apart = [count_seen(book, more, many) > count_seen(book, tellers, many)
                             for many in (*range(1, 13), 60)]
                    results.append(told(book, word, tellers))
                    self.assertIs(any(apart), not results[-1])
                    if not results[-1]:
                        self.assertIs(apart[len(pair(book, word, tellers)[0][1]) - 1], True)
        self.assertGreater(results.count(True), 40)
        self.assertGreater(results.count(False), 40)

    def test_follows_as_the_numbers_say(self):
        results = []
        for rng, book, words in books_drawn("follows", 4, 4):
            for _ in range(4):
                sentence = some_sentence(rng, words, rng.randint(2, 9))
                more = (*book[:2], (*book[2], sentence))
                same = [count_worlds(more, many) == count_worlds(book, many) for many in (*range(1, 9), 60)]
                results.append(follows(book, sentence))
                self.assertIs(all(same), results[-1])
        self.assertEqual(set(results), {True, False})

    def test_frames_as_the_numbers_say(self):
        # With as many things as a frame has sorts, each order of them is a world.
        for _, book, words in books_drawn("numbers of frames", 3):
            found = frames(book)
            if book[0] == 0:
                self.assertEqual(count_worlds(book, 60), len(found))
            for many in (1, 2):
                small = [world for world in all_worlds(book[0], book[1], many)
                         if len(world[1]) == many and keeps_by_things(book, world)]
                self.assertEqual(count_worlds(book, many), len(small))
                self.assertEqual({frame_of(world) for world in small},
                                 {frame for frame in found if len(frame[1]) <= many})

    def test_more_tellers_see_more(self):
        for _, book, words in books_drawn("more tellers", 2):
            for many in (1, 3, 60):
                self.assertEqual(count_seen(book, words, many), count_worlds(book, many))
                self.assertEqual(count_seen(book, (), many), min(count_worlds(book, many), 1))
                for tellers in subsets(words):
                    for word in words:
                        more = tuple(sorted({*tellers, word}))
                        self.assertLessEqual(count_seen(book, tellers, many), count_seen(book, more, many))


class TestNumbersOfWorlds(unittest.TestCase):
    def test_d(self):
        results = []
        for _, book, words in books_drawn("d", 8):
            numbers = (*range(1, 10), 29, 60)
            worlds = [count_worlds(book, many) for many in numbers]
            for word in words:
                others = others_of(words, word)
                same = [number == count_seen(book, others, many) for number, many in zip(worlds, numbers)]
                results.append(told(book, word, others))
                self.assertIs(all(same), results[-1])
                self.assertIs(word in loose(book), not all(same))
        self.assertGreater(results.count(True), 60)
        self.assertGreater(results.count(False), 60)

    def test_free_words(self):
        for _, book, words in books_drawn("free", 5, 3):
            for word in free_words(book):
                for many in (1, 2, 9, 60):
                    times = 2 if word in LETTERS else 2 ** many
                    seen_without = count_seen(book, others_of(words, word), many)
                    self.assertEqual(count_worlds(book, many), times * seen_without)


class TestPutAway(unittest.TestCase):
    def test_e(self):
        done = 0
        for rng, book, words in books_drawn("e", 10, 3):
            for word in words:
                others = others_of(words, word)
                for formula in (written(book, word, others), short(book, word, others)):
                    if formula is None:
                        continue
                    try:
                        less = put_away(book, word, formula)
                    except TooLong:
                        continue
                    done += 1
                    self.assertIsNone(book_error(less))
                    self.assertNotIn(word, {each for rule in less[2] for each in words_in(rule)})
                    self.assertIn(word, free_words(less))
                    for tellers in (others, rng.choice(subsets(others))):
                        for many in (1, 2, 3, 8, 60):
                            self.assertEqual(count_seen(less, tellers, many), count_seen(book, tellers, many))
                    self.assertEqual({frame_of(seen(frame, others)) for frame in frames(less)},
                                     {frame_of(seen(frame, others)) for frame in frames(book)})
                    for other in others:
                        tellers = others_of(others, other)
                        self.assertIs(told(less, other, tellers), told(book, other, tellers))
        self.assertGreater(done, 100)

    def test_small_worlds(self):
        # What is seen is the same world by world, and not only in number.
        done = 0
        rng = drawn("small e")
        for turn in range(60):
            kinds, letters = [(2, 0), (1, 1), (2, 1), (1, 2)][turn % 4]
            words = words_of(kinds, letters)
            word = words[turn % len(words)]
            others = others_of(words, word)
            made = some_sentence if word in LETTERS else some_formula
            formula = made(rng, others, rng.randint(2, 4))
            book = (kinds, letters, (iff(word, formula), some_sentence(rng, words, rng.randint(2, 8))))
            try:
                less = put_away(book, word, formula)
            except TooLong:
                continue
            done += 1
            both = [{seen(world, others) for world in all_worlds(kinds, letters, 3) if keeps_by_things(each, world)}
                    for each in (book, less)]
            self.assertEqual(*both)
        self.assertGreater(done, 20)


class TestPlans(unittest.TestCase):
    def test_words_of_a_plan_are_told_by_the_others(self):
        rng = drawn("plans")
        done = 0
        for _ in range(250):
            plan = layered_plan(rng, WORDS, 9)
            self.assertIsNone(plan_error(3, 2, plan))
            self.assertIsNone(ring(plan))
            try:
                book, flat = book_of(3, 2, plan), unwound(plan)
            except TooLong:
                continue
            done += 1
            tellers = tuple(word for word in WORDS if word not in dict(plan))
            for word, formula in flat:
                self.assertIs(told(book, word, tellers), True)
                self.assertIs(is_written(book, word, tellers, formula), True)
                self.assertIs(alike(book, word, dict(plan)[word]), True)
                self.assertIsNone(pair(book, word, tellers))
        self.assertGreater(done, 150)

    def test_unwound_at_its_longest(self):
        # The results are passed on: they have many signs, and those of the books few.
        plan = (("A", ("and", "B", "B", "p", "B")), ("B", ("or", "C", "C", "C", "p")),
                ("p", ("some", ("and", "q", "q", "C"))))
        book, flat = book_of(3, 2, plan), dict(unwound(plan))
        for word in ("A", "B", "p"):
            self.assertIs(is_written(book, word, ("C", "q"), flat[word]), True)
            self.assertIs(FirmShelf(book, word, ("C", "q")).told(word, ("C", "q")), True)
        self.assertEqual(signs(flat["A"]), 1 + 3 * (1 + 3 + 5) + 5)

    def test_putting_words_away_one_after_another(self):
        rng = drawn("one after another")
        done = 0
        for _ in range(120):
            plan = layered_plan(rng, WORDS, 9)
            sentence = some_sentence(rng, WORDS, rng.randint(2, 5))
            try:
                book = book_of(3, 2, plan)
                flat = dict(unwound(plan))
                left = (3, 2, (sentence,))
                for word in sorted(flat):
                    left = put_away(left, word, flat[word])
            except TooLong:
                continue
            done += 1
            self.assertFalse(set(flat) & set(words_in(left[2][0])))
            self.assertIs(alike(book, sentence, left[2][0]), True)
        self.assertGreater(done, 40)


class TestTexts(unittest.TestCase):
    def test_results_there_and_back(self):
        done = 0
        for _, book, words in books_drawn("results", 6, 3):
            self.assertEqual(read_book(book_text(book)), book)
            for word in words:
                formula = written(book, word, others_of(words, word))
                if formula is not None and signs(formula) <= 40 and len(formula_text(formula)) <= 300:
                    done += 1
                    self.assertEqual(read_formula(book[0], book[1], formula_text(formula)), formula)
        self.assertGreater(done, 40)

    def test_what_is_read_is_passed_on(self):
        text = "2 1\n[all [or [not A] B]]\n[or [not p] [all A]]\n[or p [all [not A]]]"
        book = read_book(text)
        self.assertIs(told(book, "A", ("B", "p")), True)
        self.assertIs(is_written(book, "A", ("B", "p"), read_formula(2, 1, "[and B p]")), True)
        self.assertEqual(book_text(FirmShelf(book, "A", ("B", "p")).book), text)
        shelf = Shelf(read_book("2 1"))
        for line in text.split("\n")[1:]:
            shelf.add(read_formula(2, 1, line))
        self.assertEqual(book_text(shelf.book), text)
        self.assertIs(holds((("p",), (("A", "B"),)), read_formula(2, 1, "[all [and A B]]")), True)


class TestShelves(unittest.TestCase):
    def check_as_new(self, shelf, rng, words):
        fresh = Shelf(shelf.book)
        self.assertEqual((list(fresh), len(fresh), fresh.book), (list(shelf), len(shelf), shelf.book))
        for word in words:
            tellers = rng.choice(subsets(others_of(words, word)))
            for name in ("told", "written", "pair"):
                self.assertEqual(getattr(shelf, name)(word, tellers), getattr(fresh, name)(word, tellers))
        self.assertIs(shelf == fresh, type(shelf) is Shelf)
        self.assertEqual(shelf.twin(), shelf)

    def test_f(self):
        rng = drawn("f")
        for turn in range(22):
            kinds, letters = vocabularies()[turn % 11]
            words = words_of(kinds, letters)
            book = some_book(rng, kinds, letters, 3)
            shelf = Shelf(book)
            if told(book, words[0], words[1:]) and turn % 2 == 1:
                shelf = FirmShelf(book, words[0], words[1:])
            for _ in range(25):
                edits = [lambda: shelf.add(some_sentence(rng, words, 6))] * 2
                edits += [lambda: shelf.drop(rng.randrange(len(shelf)))] * (len(shelf) > 0)
                edits += [lambda: shelf.turn(len(shelf) - 1, some_sentence(rng, words, 6))] * (len(shelf) > 0)
                edits += [shelf.undo] * (shelf.version > 0)
                try:
                    rng.choice(edits)()
                    if rng.random() < 0.3 and shelf.version > 0:
                        shelf.undo()
                        shelf.redo()
                except (BadBook, Loosened):
                    pass
                self.check_as_new(shelf, rng, words)


if __name__ == "__main__":
    unittest.main()
