"""Point 1, as far as points 3 to 8 bear it; what the other points add is in test_guarantees."""

import unittest

from tellwords.books import alike, book_error, follows, frames, keeps
from tellwords.formulas import is_sentence, replaced, words_of
from tellwords.lots import (
    fewest_dropped, free_words, least_lots, least_tellers, loose, reasons,
)
from tellwords.short import fewest_signs, short
from tellwords.telling import is_pair, is_written, pair, told, written
from tellwords.worlds import frame_of, holds, holds_of, seen
from tests.helpers import (
    all_worlds, drawn, iff, some_book, some_formula, some_sentence, some_world, subsets, told_by_worlds,
    vocabularies, words_left,
)

WORDS = words_of(3, 2)


def same_frame(rng, world):
    """A world with the frame of another one, and with any number of things."""
    yes, things = world
    sorts = sorted(set(things))
    more = [rng.choice(sorts) for _ in range(rng.randint(0, 12 - len(sorts)))]
    return (yes, tuple(rng.sample(sorts + more, len(sorts) + len(more))))


def with_word(world, word, other):
    """The world with the word put just where the formula other holds."""
    yes, things = world
    where = holds_of(world, other)
    if word in ("p", "q"):
        put = {*yes, word} if where else {*yes} - {word}
        return (tuple(sorted(put)), things)
    put = [{*thing, word} if at in where else {*thing} - {word} for at, thing in enumerate(things)]
    return (yes, tuple(tuple(sorted(thing)) for thing in put))


class TestFramesDecide(unittest.TestCase):
    def test_worlds_with_the_same_frame_agree(self):
        rng = drawn("frames")
        lengths = set()
        for turn in range(500):
            world = some_world(rng, 3, 2, 12)
            another = same_frame(rng, world)
            lengths.add(len(another[1]) - len(world[1]))
            self.assertEqual(frame_of(world), frame_of(another))
            formula = some_formula(rng, WORDS, turn % 40 + 1)
            sentence = some_sentence(rng, WORDS, turn % 39 + 2)
            self.assertIs(holds(world, sentence), holds(another, sentence))
            one, other = holds_of(world, formula), holds_of(another, formula)
            for at, thing in enumerate(world[1]):
                for place, alike in enumerate(another[1]):
                    if thing == alike:
                        self.assertIs(at in one, place in other)
        self.assertGreater(len(lengths), 5)

    def test_what_is_not_seen_does_not_count(self):
        rng = drawn("not seen")
        for turn in range(200):
            world = some_world(rng, 3, 2, 8)
            formula = some_formula(rng, ("B", "q"), turn % 40 + 1)
            self.assertEqual(holds_of(seen(world, ("B", "q")), formula), holds_of(world, formula))


class TestReplacedTellsTheSame(unittest.TestCase):
    def test_replaced_in_the_world_and_the_word_put_elsewhere(self):
        rng = drawn("put")
        for turn in range(500):
            word = WORDS[turn % 5]
            made = some_sentence if word in ("p", "q") else some_formula
            other = made(rng, WORDS, rng.randint(2, 20))
            formula = some_formula(rng, WORDS, turn % 40 + 1)
            world = some_world(rng, 3, 2, 8)
            put = with_word(world, word, other)
            told = replaced(formula, word, other)
            self.assertEqual(holds_of(world, told), holds_of(put, formula))
            if is_sentence(formula) and is_sentence(told):
                self.assertIs(holds(world, told), holds(put, formula))


def others_of(words, word):
    """The words without one of them."""
    return tuple(other for other in words if other != word)


def questions(rng, book):
    """Each word of the book, with all other words and with some of them."""
    words = words_of(book[0], book[1])
    for word in words:
        others = others_of(words, word)
        yield word, others
        yield word, tuple(other for other in others if rng.random() < 0.6)


def some_books(seed, many, most=6):
    """Books of all vocabularies, drawn; the last one of each vocabulary has no world."""
    rng = drawn(seed)
    for kinds, letters in vocabularies():
        for turn in range(many):
            book = some_book(rng, kinds, letters, most)
            if turn == many - 1:
                book = (kinds, letters, (*book[2][:most - 1], ("or",)))
            yield rng, book


def exchanged(value, pairs):
    """A formula, a tuple of words or a tuple of tuples with words exchanged, in no order."""
    if isinstance(value, str):
        return pairs.get(value, value)
    return tuple(exchanged(item, pairs) for item in value)


def in_order(lots):
    """Lots of words, in order."""
    return tuple(sorted(tuple(sorted(lot)) for lot in lots))


class TestToldWrittenAndPair(unittest.TestCase):
    def test_one_of_written_and_pair(self):
        results = []
        for rng, book in some_books("one of both", 12):
            for word, tellers in questions(rng, book):
                formula, worlds = written(book, word, tellers), pair(book, word, tellers)
                results.append(told(book, word, tellers))
                self.assertIs(formula is not None, results[-1])
                self.assertIs(worlds is None, results[-1])
                self.assertIs(is_written(book, word, tellers, formula), results[-1])
                self.assertIs(is_pair(book, word, tellers, worlds), not results[-1])
        self.assertGreater(results.count(True), 100)
        self.assertGreater(results.count(False), 100)

    def test_what_is_accepted_is_right(self):
        # So there is no writing-out where there is a pair, whoever made it.
        rng = drawn("accepted")
        accepted = 0
        for _ in range(1000):
            book = some_book(rng, 2, 1, 2)
            for word, tellers in questions(rng, book):
                formula = some_formula(rng, tellers, rng.randint(1, 3))
                worlds = some_world(rng, 2, 1, 2), some_world(rng, 2, 1, 2)
                if is_written(book, word, tellers, formula):
                    accepted += 1
                    self.assertIs(told(book, word, tellers), True)
                    self.assertIs(is_pair(book, word, tellers, worlds), False)
                if is_pair(book, word, tellers, worlds):
                    self.assertIs(told(book, word, tellers), False)
        self.assertGreater(accepted, 50)

    def test_short_is_accepted(self):
        for rng, book in some_books("short is accepted", 5):
            for word, tellers in questions(rng, book):
                formula = short(book, word, tellers)
                self.assertIs(is_written(book, word, tellers, formula), formula is not None)
                self.assertIs(formula is None, fewest_signs(book, word, tellers) is None)

    def test_worlds_with_more_things_tell_the_same(self):
        rng = drawn("more things")
        for turn in range(24):
            kinds, letters = [(1, 0), (1, 1), (1, 2)][turn % 3]
            book = some_book(rng, kinds, letters, 2)
            worlds = [world for world in all_worlds(kinds, letters, 6) if keeps(book, world)]
            self.assertEqual(frames(book), tuple(sorted({frame_of(world) for world in worlds})))
            for word, tellers in questions(rng, book):
                self.assertIs(told(book, word, tellers), told_by_worlds(worlds, word, tellers))


class TestFramesOfBooks(unittest.TestCase):
    def test_a_world_keeps_the_book_if_its_frame_is_among_them(self):
        results = []
        for rng, book in some_books("among them", 6, 3):
            found = frames(book)
            for _ in range(20):
                world = some_world(rng, book[0], book[1], 12)
                results.append(keeps(book, world))
                self.assertIs(frame_of(world) in found, results[-1])
        self.assertEqual(set(results), {True, False})

    def test_with_a_rule_more(self):
        for rng, book in some_books("rule more", 4, 3):
            words = words_of(book[0], book[1])
            rule = some_sentence(rng, words, rng.randint(2, 20))
            more = (book[0], book[1], (*book[2], rule))
            kept = tuple(frame for frame in frames(book) if holds(frame, rule))
            self.assertEqual(frames(more), kept)
            self.assertIs(follows(book, rule), kept == frames(book))
            self.assertIs(follows(more, rule), True)

    def test_order_and_joining(self):
        for rng, book in some_books("order", 4):
            rules = book[2]
            shuffled = tuple(rng.sample(rules, len(rules)))
            for same in (shuffled, rules + rules, (("and", *rules),), (*rules[:2], ("and", *rules[2:]))):
                self.assertEqual(frames((book[0], book[1], same)), frames(book))

    def test_books_with_the_same_frames_tell_the_same(self):
        for rng, book in some_books("same frames", 3):
            kinds, letters, rules = book
            joined = ("and", *rules)
            twin = (kinds, letters, (("not", ("not", ("all", joined))), ("some", ("or", joined, joined))))
            self.assertEqual(frames(twin), frames(book))
            for function in (least_lots, loose, free_words):
                self.assertEqual(function(twin), function(book))
            for word, tellers in questions(rng, book):
                self.assertIs(told(twin, word, tellers), told(book, word, tellers))
                self.assertEqual(least_tellers(twin, word), least_tellers(book, word))
                self.assertEqual(fewest_signs(twin, word, tellers), fewest_signs(book, word, tellers))
                self.assertIs(is_written(twin, word, tellers, written(book, word, tellers)),
                              told(book, word, tellers))
                self.assertIs(is_pair(twin, word, tellers, pair(book, word, tellers)),
                              not told(book, word, tellers))


class TestMoreTells(unittest.TestCase):
    def test_told_by_more_words_and_with_a_rule_more(self):
        for rng, book in some_books("more", 4, 4):
            rule = some_sentence(rng, words_of(book[0], book[1]), rng.randint(2, 12))
            with_rule = (book[0], book[1], (*book[2], rule))
            for word, others in list(questions(rng, book))[::2]:
                for tellers in subsets(others):
                    if told(book, word, tellers):
                        self.assertIs(told(with_rule, word, tellers), True)
                        for teller in others:
                            more = tuple(sorted({*tellers, teller}))
                            self.assertIs(told(book, word, more), True)

    def test_told_just_if_some_least_tellers_are_among_them(self):
        for rng, book in some_books("least among them", 6):
            for word, others in list(questions(rng, book))[::2]:
                least = least_tellers(book, word)
                for tellers in subsets(others):
                    expected = any(set(lot) <= set(tellers) for lot in least)
                    self.assertIs(told(book, word, tellers), expected)

    def test_lots_go_together(self):
        for rng, book in some_books("together", 4):
            words = words_of(book[0], book[1])
            for lot in least_lots(book):
                self.assertLessEqual(set(loose(book)), set(lot))
            for word, others in list(questions(rng, book))[::2]:
                self.assertIs(word in loose(book), not told(book, word, others))
                for tellers in (others, words_left(others, words[::2])):
                    lots = reasons(book, word, tellers)
                    dropped = fewest_dropped(book, word, tellers)
                    self.assertIs(lots == (), not told(book, word, tellers))
                    self.assertIs(dropped == (), not told(book, word, tellers))
                    for lot in lots:
                        self.assertTrue(set(lot) & set(dropped))
            if frames(book):
                self.assertLessEqual(set(free_words(book)), set(loose(book)))

    def test_the_fewest_signs_never_rise(self):
        compared = 0
        for rng, book in some_books("fewest", 5, 4):
            rule = some_sentence(rng, words_of(book[0], book[1]), rng.randint(2, 12))
            with_rule = (book[0], book[1], (*book[2], rule))
            for (word, others), (_, tellers) in zip(*[iter(questions(rng, book))] * 2):
                many = fewest_signs(book, word, tellers)
                if many is not None:
                    compared += 1
                    self.assertLessEqual(fewest_signs(book, word, others), many)
                    self.assertLessEqual(fewest_signs(with_rule, word, tellers), many)
        self.assertGreater(compared, 20)


class TestWordsExchanged(unittest.TestCase):
    PAIRS = ({"A": "B", "B": "A"}, {"p": "q", "q": "p"}, {"A": "B", "B": "C", "C": "A", "p": "q", "q": "p"})

    def test_all_goes_along(self):
        rng = drawn("exchanged")
        for turn in range(9):
            book = some_book(rng, 3, 2)
            pairs = self.PAIRS[turn % 3]
            other = (3, 2, exchanged(book[2], pairs))
            self.assertIsNone(book_error(other))
            turned = [(in_order([yes])[0], in_order(stock)) for yes, stock in exchanged(frames(book), pairs)]
            self.assertEqual(frames(other), tuple(sorted(turned)))
            self.assertEqual(least_lots(other), in_order(exchanged(least_lots(book), pairs)))
            self.assertEqual(loose(other), in_order([exchanged(loose(book), pairs)])[0])
            self.assertEqual(free_words(other), in_order([exchanged(free_words(book), pairs)])[0])
            for word, tellers in questions(rng, book):
                self.check_word(book, other, pairs, word, tellers)

    def check_word(self, book, other, pairs, word, tellers):
        along = (other, exchanged(word, pairs), in_order([exchanged(tellers, pairs)])[0])
        self.assertIs(told(*along), told(book, word, tellers))
        self.assertEqual(least_tellers(*along[:2]), in_order(exchanged(least_tellers(book, word), pairs)))
        self.assertEqual(reasons(*along), reasons(book, word, tellers))
        self.assertEqual(fewest_dropped(*along), fewest_dropped(book, word, tellers))
        self.assertEqual(fewest_signs(*along), fewest_signs(book, word, tellers))
        formula = written(book, word, tellers)
        if formula is not None:
            self.assertIs(is_written(*along, exchanged(formula, pairs)), True)
        else:
            worlds = [(in_order([exchanged(yes, pairs)])[0],
                       tuple(in_order([exchanged(thing, pairs)])[0] for thing in things))
                      for yes, things in pair(book, word, tellers)]
            self.assertIs(is_pair(*along, tuple(worlds)), True)


class TestDefinitions(unittest.TestCase):
    def test_a_word_is_alike_to_what_defines_it(self):
        rng = drawn("definitions")
        for _ in range(60):
            word = rng.choice(WORDS)
            others = others_of(WORDS, word)
            made = some_sentence if word in ("p", "q") else some_formula
            formula = made(rng, others, rng.randint(2, 14))
            book = (3, 2, (iff(word, formula),))
            self.assertIs(alike(book, word, formula), True)
            self.assertIs(is_written(book, word, others, formula), True)
            self.assertIs(told(book, word, others), True)
            self.assertEqual(reasons(book, word, others), ((0,),))
            self.assertIs(alike(book, word, written(book, word, others)), True)


if __name__ == "__main__":
    unittest.main()
