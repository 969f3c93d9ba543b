"""Point 4: worlds."""

import unittest

from tellwords.formulas import is_sentence, words_of
from tellwords.worlds import frame_of, holds, holds_of, is_world, seen
from tests.helpers import (
    ODD_VALUES, deep, drawn, some_formula, some_sentence, some_world, soon, sorts_of, things_of,
)

# The world of the document's example.
W = (("p",), (("A",), (), ("A", "B")))


class TestIsWorld(unittest.TestCase):
    def test_worlds(self):
        for value in (W, ((), ((),)), (("p", "q"), (("A", "B", "C"),) * 12), (("q",), ((), ()))):
            with self.subTest(value=value):
                self.assertIs(is_world(3, 2, value), True)

    def test_of_the_vocabulary(self):
        for kinds in range(4):
            for letters in range(3):
                for yes in ((), ("p",), ("q",), ("p", "q")):
                    for sort in sorts_of(3):
                        words = words_of(kinds, letters)
                        expected = all(word in words for word in yes + sort)
                        self.assertIs(is_world(kinds, letters, (yes, ((), sort))), expected)

    def test_one_to_twelve_things(self):
        for many in range(16):
            with self.subTest(many=many):
                self.assertIs(is_world(1, 0, ((), (("A",),) * many)), 1 <= many <= 12)
                self.assertIs(is_world(1, 0, ((), ((),) * many)), 1 <= many <= 12)

    def test_ascending_without_duplicates(self):
        for value in ((("q", "p"), ((),)), (("p", "p"), ((),)), ((), (("B", "A"),)),
                      ((), (("A", "A"),)), ((), ((), ("A", "C", "B")))):
            with self.subTest(value=value):
                self.assertIs(is_world(3, 2, value), False)

    def test_kinds_and_letters_in_their_own_places(self):
        self.assertIs(is_world(3, 2, (("A",), ((),))), False)
        self.assertIs(is_world(3, 2, ((), (("p",),))), False)

    def test_other_values(self):
        for value in (*ODD_VALUES, "p", "A", ("and",), ("not", "A"), (W,), (*W, ())):
            with self.subTest(value=value):
                self.assertIs(is_world(3, 2, value), False)

    def test_other_values_in_its_places(self):
        for value in ODD_VALUES:
            with self.subTest(value=value):
                if value != ((), ()):
                    self.assertIs(is_world(3, 2, ((), value)), value in ((("A",),), ((), ())))
                if value not in ((), ("p",)):
                    self.assertIs(is_world(3, 2, (value, ((),))), False)
                if value not in ((), ("A",), ("A", "B")):
                    self.assertIs(is_world(3, 2, ((), ((), value))), False)
                self.assertIs(is_world(3, 2, ((), (("A", value),))), False)
                self.assertIs(is_world(3, 2, (("p", value), ((),))), False)

    def test_lists_instead_of_tuples(self):
        for value in ([(), ((),)], ([], ((),)), ((), [()]), ((), ([],)), (["p"], ((),)),
                      ((), (["A"],)), {0: (), 1: ((),)}):
            with self.subTest(value=value):
                self.assertIs(is_world(3, 2, value), False)


class TestHolds(unittest.TestCase):
    def test_examples(self):
        self.assertEqual(holds_of(W, ("and", "A", ("some", "B"))), (0, 2))
        self.assertIs(holds(W, ("all", "A")), False)

    def test_words(self):
        self.assertEqual(holds_of(W, "A"), (0, 2))
        self.assertEqual(holds_of(W, "B"), (2,))
        self.assertEqual(holds_of(W, "C"), ())
        self.assertEqual(holds_of(W, "p"), (0, 1, 2))
        self.assertEqual(holds_of(W, "q"), ())
        self.assertIs(holds(W, "p"), True)
        self.assertIs(holds(W, "q"), False)

    def test_and_and_or(self):
        self.assertEqual(holds_of(W, ("and",)), (0, 1, 2))
        self.assertEqual(holds_of(W, ("or",)), ())
        self.assertIs(holds(W, ("and",)), True)
        self.assertIs(holds(W, ("or",)), False)
        self.assertIs(holds(W, ("all", ("and",))), True)
        self.assertIs(holds(W, ("some", ("or",))), False)
        self.assertEqual(holds_of(W, ("and", "A")), (0, 2))
        self.assertEqual(holds_of(W, ("or", "B")), (2,))
        self.assertEqual(holds_of(W, ("and", "A", ("not", "B"), "p")), (0,))
        self.assertEqual(holds_of(W, ("or", "B", ("not", "A"), "q")), (1, 2))

    def test_not(self):
        self.assertEqual(holds_of(W, ("not", "A")), (1,))
        self.assertEqual(holds_of(W, ("not", "q")), (0, 1, 2))
        self.assertEqual(holds_of(W, ("not", ("and",))), ())

    def test_some_and_all(self):
        self.assertEqual(holds_of(W, ("some", "B")), (0, 1, 2))
        self.assertEqual(holds_of(W, ("all", "A")), ())
        self.assertEqual(holds_of(W, ("all", ("or", "A", ("not", "B")))), (0, 1, 2))
        self.assertEqual(holds_of(W, ("or", ("all", "A"), "B")), (2,))
        self.assertIs(holds(W, ("some", ("and", "A", ("all", ("or", "A", "p"))))), True)

    def test_one_thing(self):
        world = (("q",), (("B",),))
        for word, expected in (("A", False), ("B", True), ("p", False), ("q", True)):
            self.assertIs(holds(world, ("some", word)), expected)
            self.assertIs(holds(world, ("all", word)), expected)

    def test_things_of_one_sort_keep_their_own_indexes(self):
        world = ((), (("B",), ("A",), ("B",), (), ("A",), ("B",)))
        self.assertEqual(holds_of(world, "B"), (0, 2, 5))
        self.assertEqual(holds_of(world, ("not", "B")), (1, 3, 4))

    def test_all_small_worlds_against_the_reference(self):
        rng = drawn("small worlds")
        formulas = [some_formula(rng, ("A", "B", "p"), many) for many in range(1, 13) for _ in range(6)]
        things = [(one,) for one in sorts_of(2)]
        things += [(one, other) for one in sorts_of(2) for other in sorts_of(2)]
        for world in [(yes, each) for yes in ((), ("p",)) for each in things]:
            for formula in formulas:
                self.check(world, formula)

    def test_up_to_forty_signs_and_twelve_things(self):
        rng = drawn("large worlds")
        for turn in range(600):
            kinds, letters = rng.choice([(0, 1), (0, 2), (1, 0), (1, 2), (2, 1), (3, 0), (3, 2)])
            words = words_of(kinds, letters)
            world = some_world(rng, kinds, letters, 12)
            self.check(world, some_formula(rng, words, turn % 40 + 1))
            self.check(world, some_sentence(rng, words, turn % 39 + 2))

    def check(self, world, formula):
        expected = tuple(sorted(things_of(world, formula)))
        self.assertEqual(holds_of(world, formula), expected, (world, formula))
        if is_sentence(formula):
            self.assertIn(len(expected), (0, len(world[1])))
            self.assertIs(holds(world, formula), len(expected) > 0, (world, formula))

    def test_a_part_is_worked_out_once(self):
        world = (("p",), ((), ("A",), ("B",), ("A", "B"), ("C",), ("A", "C"), ("B", "C"),
                          ("A", "B", "C"), (), ("A",), ("B",), ("C",)))
        with soon():
            for many in (38, 39, 199):
                heads = (["some", "all"] * 100)[:many]
                self.assertIs(holds(world, deep(heads, "A")), many % 2 == 1)
                self.assertEqual(holds_of(world, deep(["and", *heads], "A")),
                                 tuple(range(12)) if many % 2 == 1 else ())
            mixed = ("and", "A", deep(["some", "and", "all", "or"] * 9, ("or", "B", "p")))
            self.assertEqual(holds_of(world, mixed), (1, 3, 5, 7, 9))

    def test_long_formulas(self):
        world = ((), (("A",), ()))
        long = ("or", *[("some", ("and", "A", "B"))] * 1499, ("not", "A"))
        with soon():
            self.assertEqual(holds_of(world, long), (1,))
            self.assertIs(holds(world, ("all", long)), False)


class TestSeen(unittest.TestCase):
    def test_example(self):
        self.assertEqual(seen(W, ("B",)), ((), ((), (), ("B",))))

    def test_all_words_and_none(self):
        self.assertEqual(seen(W, ("A", "B", "C", "p", "q")), W)
        self.assertEqual(seen(W, ("A", "B", "p")), W)
        self.assertEqual(seen(W, ()), ((), ((), (), ())))

    def test_letters_and_kinds(self):
        self.assertEqual(seen(W, ("p",)), (("p",), ((), (), ())))
        self.assertEqual(seen(W, ("A", "q")), ((), (("A",), (), ("A",))))
        self.assertEqual(seen((("p", "q"), (("A", "B", "C"),)), ("A", "C", "q")),
                         (("q",), (("A", "C"),)))

    def test_things_stay_where_they_are(self):
        world = ((), (("B",), ("A",), ("B",), ("A", "B")))
        self.assertEqual(seen(world, ("B",)), ((), (("B",), (), ("B",), ("B",))))

    def test_all_tellers(self):
        rng = drawn("seen")
        words = words_of(3, 2)
        for choice in range(32):
            tellers = tuple(word for at, word in enumerate(words) if choice >> at & 1)
            world = some_world(rng, 3, 2, 12)
            left = seen(world, tellers)
            self.assertIs(is_world(3, 2, left), True)
            for word in words:
                expected = holds_of(world, word) if word in tellers else ()
                self.assertEqual(holds_of(left, word), expected)


class TestFrameOf(unittest.TestCase):
    def test_example(self):
        self.assertEqual(frame_of(W), (("p",), ((), ("A",), ("A", "B"))))

    def test_each_sort_once_in_order(self):
        things = (("B",), ("A", "C"), ("B",), (), ("A", "B"), ("A",), ("A", "C"), ())
        self.assertEqual(frame_of((("q",), things)),
                         (("q",), ((), ("A",), ("A", "B"), ("A", "C"), ("B",))))
        self.assertEqual(frame_of(((), (("C",),) * 12)), ((), (("C",),)))


if __name__ == "__main__":
    unittest.main()
