"""The interface: each name, where it is defined and what its arguments are called."""

import importlib
import inspect
import unittest

FUNCTIONS = {
    "formulas": {
        "words_of": ["kinds", "letters"],
        "formula_error": ["kinds", "letters", "value"],
        "signs": ["formula"],
        "is_sentence": ["formula"],
        "words_in": ["formula"],
        "replaced": ["formula", "word", "other"],
    },
    "worlds": {
        "is_world": ["kinds", "letters", "value"],
        "holds": ["world", "sentence"],
        "holds_of": ["world", "formula"],
        "seen": ["world", "tellers"],
        "frame_of": ["world"],
    },
    "books": {
        "book_error": ["value"],
        "keeps": ["book", "value"],
        "frames": ["book"],
        "follows": ["book", "sentence"],
        "against": ["book", "sentence"],
        "alike": ["book", "one", "other"],
        "parting": ["book", "one", "other"],
    },
    "telling": {
        "told": ["book", "word", "tellers"],
        "written": ["book", "word", "tellers"],
        "is_written": ["book", "word", "tellers", "value"],
        "pair": ["book", "word", "tellers"],
        "is_pair": ["book", "word", "tellers", "value"],
    },
    "lots": {
        "least_tellers": ["book", "word"],
        "least_lots": ["book"],
        "loose": ["book"],
        "free_words": ["book"],
        "reasons": ["book", "word", "tellers"],
        "fewest_dropped": ["book", "word", "tellers"],
    },
    "short": {
        "fewest_signs": ["book", "word", "tellers"],
        "short": ["book", "word", "tellers"],
    },
    "counting": {
        "count_worlds": ["book", "many"],
        "count_seen": ["book", "tellers", "many"],
    },
    "rings": {
        "plan_error": ["kinds", "letters", "value"],
        "ring": ["plan"],
        "unwound": ["plan"],
        "book_of": ["kinds", "letters", "plan"],
        "put_away": ["book", "word", "other"],
    },
    "texts": {
        "formula_text": ["formula"],
        "book_text": ["book"],
        "read_formula": ["kinds", "letters", "value"],
        "read_book": ["value"],
    },
}

CLASSES = {
    "errors": {
        "WordError": None,
        "BadBook": ["error"],
        "Ringed": ["ring"],
        "TooLong": ["index"],
        "BadText": ["place"],
        "Full": None,
        "NothingToUndo": None,
        "NothingToRedo": None,
        "NoWord": ["value"],
        "BadTellers": ["value"],
        "Loosened": ["worlds"],
        "NoRule": ["index"],
    },
    "shelves": {
        "Shelf": ["value"],
        "FirmShelf": ["value", "word", "tellers"],
    },
}

# The methods of a shelf with their arguments, and what stands for len, [], in, == and for.
METHODS = {
    "add": ["value"],
    "drop": ["value"],
    "turn": ["index", "value"],
    "undo": [],
    "redo": [],
    "told": ["word", "tellers"],
    "written": ["word", "tellers"],
    "pair": ["word", "tellers"],
    "twin": [],
}
SIGNS = ("__len__", "__getitem__", "__contains__", "__eq__", "__iter__")

BOUNDS = ("MAX_KINDS", "MAX_LETTERS", "MAX_SIGNS", "MAX_THINGS", "MAX_RULES", "MAX_SHORT", "MAX_COUNTED",
          "MAX_UNWOUND", "MAX_EDITS")


class TestInterface(unittest.TestCase):
    def test_functions(self):
        for file, functions in FUNCTIONS.items():
            module = importlib.import_module("tellwords." + file)
            for name, arguments in functions.items():
                with self.subTest(file, name=name):
                    function = getattr(module, name)
                    self.assertTrue(inspect.isfunction(function))
                    self.assertEqual(function.__name__, name)
                    self.assertEqual(function.__module__, "tellwords." + file)
                    parameters = inspect.signature(function).parameters.values()
                    self.assertEqual([each.name for each in parameters], arguments)
                    self.assertEqual({each.kind for each in parameters},
                                     {inspect.Parameter.POSITIONAL_OR_KEYWORD})

    def test_classes(self):
        for file, classes in CLASSES.items():
            module = importlib.import_module("tellwords." + file)
            for name, arguments in classes.items():
                with self.subTest(file, name=name):
                    made = getattr(module, name)
                    self.assertTrue(inspect.isclass(made))
                    self.assertEqual(made.__name__, name)
                    self.assertEqual(made.__module__, "tellwords." + file)
                    if arguments is not None:
                        parameters = list(inspect.signature(made.__dict__["__init__"]).parameters)
                        self.assertEqual(parameters[1:], arguments)

    def test_methods_of_shelves(self):
        shelves = importlib.import_module("tellwords.shelves")
        for made in (shelves.Shelf, shelves.FirmShelf):
            for name, arguments in METHODS.items():
                with self.subTest(made.__name__, name=name):
                    parameters = list(inspect.signature(getattr(made, name)).parameters)
                    self.assertEqual(parameters[1:], arguments)

    def test_defined_in_the_class_itself(self):
        shelves = importlib.import_module("tellwords.shelves")
        own = shelves.Shelf.__dict__
        for name in (*METHODS, *SIGNS, "__init__"):
            with self.subTest(name):
                self.assertTrue(inspect.isfunction(own[name]))
        for name in ("book", "version"):
            self.assertIsInstance(own[name], property)
        self.assertEqual(own["LIMIT"], 40)
        for name in ("word", "tellers"):
            self.assertIsInstance(shelves.FirmShelf.__dict__[name], property)
        self.assertIn("__init__", shelves.FirmShelf.__dict__)
        self.assertEqual(shelves.FirmShelf.__bases__, (shelves.Shelf,))
        self.assertEqual(shelves.Shelf.__bases__, (object,))

    def test_bounds(self):
        bounds = importlib.import_module("tellwords.bounds")
        for name in BOUNDS:
            self.assertIs(type(getattr(bounds, name)), int)


if __name__ == "__main__":
    unittest.main()
