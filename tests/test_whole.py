"""Point 1, as far as formulas and worlds bear it."""

import unittest

from tellwords.formulas import is_sentence, replaced, words_of
from tellwords.worlds import frame_of, holds, holds_of, seen
from tests.helpers import drawn, some_formula, some_sentence, some_world

WORDS = words_of(3, 2)


def same_frame(rng, world):
    """A world with the frame of another one, and with any number of things."""
    yes, things = world
    sorts = sorted(set(things))
    more = [rng.choice(sorts) for _ in range(rng.randint(0, 12 - len(sorts)))]
    return (yes, tuple(rng.sample(sorts + more, len(sorts) + len(more))))


def with_word(world, word, other):
    """The world with the word put just where the formula other holds."""
    yes, things = world
    where = holds_of(world, other)
    if word in ("p", "q"):
        put = {*yes, word} if where else {*yes} - {word}
        return (tuple(sorted(put)), things)
    put = [{*thing, word} if at in where else {*thing} - {word} for at, thing in enumerate(things)]
    return (yes, tuple(tuple(sorted(thing)) for thing in put))


class TestFramesDecide(unittest.TestCase):
    def test_worlds_with_the_same_frame_agree(self):
        rng = drawn("frames")
        lengths = set()
        for turn in range(500):
            world = some_world(rng, 3, 2, 12)
            another = same_frame(rng, world)
            lengths.add(len(another[1]) - len(world[1]))
            self.assertEqual(frame_of(world), frame_of(another))
            formula = some_formula(rng, WORDS, turn % 40 + 1)
            sentence = some_sentence(rng, WORDS, turn % 39 + 2)
            self.assertIs(holds(world, sentence), holds(another, sentence))
            one, other = holds_of(world, formula), holds_of(another, formula)
            for at, thing in enumerate(world[1]):
                for place, alike in enumerate(another[1]):
                    if thing == alike:
                        self.assertIs(at in one, place in other)
        self.assertGreater(len(lengths), 5)

    def test_what_is_not_seen_does_not_count(self):
        rng = drawn("not seen")
        for turn in range(200):
            world = some_world(rng, 3, 2, 8)
            formula = some_formula(rng, ("B", "q"), turn % 40 + 1)
            self.assertEqual(holds_of(seen(world, ("B", "q")), formula), holds_of(world, formula))


class TestReplacedTellsTheSame(unittest.TestCase):
    def test_replaced_in_the_world_and_the_word_put_elsewhere(self):
        rng = drawn("put")
        for turn in range(500):
            word = WORDS[turn % 5]
            made = some_sentence if word in ("p", "q") else some_formula
            other = made(rng, WORDS, rng.randint(2, 20))
            formula = some_formula(rng, WORDS, turn % 40 + 1)
            world = some_world(rng, 3, 2, 8)
            put = with_word(world, word, other)
            told = replaced(formula, word, other)
            self.assertEqual(holds_of(world, told), holds_of(put, formula))
            if is_sentence(formula) and is_sentence(told):
                self.assertIs(holds(world, told), holds(put, formula))


if __name__ == "__main__":
    unittest.main()
