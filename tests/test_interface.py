"""The interface: each name, where it is defined and what its arguments are called."""

import importlib
import inspect
import unittest

FUNCTIONS = {
    "formulas": {
        "words_of": ["kinds", "letters"],
        "formula_error": ["kinds", "letters", "value"],
        "signs": ["formula"],
        "is_sentence": ["formula"],
        "words_in": ["formula"],
        "replaced": ["formula", "word", "other"],
    },
    "worlds": {
        "is_world": ["kinds", "letters", "value"],
        "holds": ["world", "sentence"],
        "holds_of": ["world", "formula"],
        "seen": ["world", "tellers"],
        "frame_of": ["world"],
    },
    "books": {
        "book_error": ["value"],
        "keeps": ["book", "value"],
        "frames": ["book"],
        "follows": ["book", "sentence"],
        "against": ["book", "sentence"],
        "alike": ["book", "one", "other"],
        "parting": ["book", "one", "other"],
    },
    "telling": {
        "told": ["book", "word", "tellers"],
        "written": ["book", "word", "tellers"],
        "is_written": ["book", "word", "tellers", "value"],
        "pair": ["book", "word", "tellers"],
        "is_pair": ["book", "word", "tellers", "value"],
    },
    "lots": {
        "least_tellers": ["book", "word"],
        "least_lots": ["book"],
        "loose": ["book"],
        "free_words": ["book"],
        "reasons": ["book", "word", "tellers"],
        "fewest_dropped": ["book", "word", "tellers"],
    },
    "short": {
        "fewest_signs": ["book", "word", "tellers"],
        "short": ["book", "word", "tellers"],
    },
}

CLASSES = {
    "errors": {
        "WordError": None,
        "BadBook": ["error"],
        "Ringed": ["ring"],
        "TooLong": ["index"],
        "BadText": ["place"],
        "Full": None,
        "NothingToUndo": None,
        "NothingToRedo": None,
        "NoWord": ["value"],
        "BadTellers": ["value"],
        "Loosened": ["worlds"],
        "NoRule": ["index"],
    },
}


class TestInterface(unittest.TestCase):
    def test_functions(self):
        for file, functions in FUNCTIONS.items():
            module = importlib.import_module("tellwords." + file)
            for name, arguments in functions.items():
                with self.subTest(file, name=name):
                    function = getattr(module, name)
                    self.assertTrue(inspect.isfunction(function))
                    self.assertEqual(function.__name__, name)
                    self.assertEqual(function.__module__, "tellwords." + file)
                    parameters = inspect.signature(function).parameters.values()
                    self.assertEqual([each.name for each in parameters], arguments)
                    self.assertEqual({each.kind for each in parameters},
                                     {inspect.Parameter.POSITIONAL_OR_KEYWORD})

    def test_classes(self):
        for file, classes in CLASSES.items():
            module = importlib.import_module("tellwords." + file)
            for name, arguments in classes.items():
                with self.subTest(file, name=name):
                    made = getattr(module, name)
                    self.assertTrue(inspect.isclass(made))
                    self.assertEqual(made.__name__, name)
                    self.assertEqual(made.__module__, "tellwords." + file)
                    if arguments is not None:
                        parameters = list(inspect.signature(made.__dict__["__init__"]).parameters)
                        self.assertEqual(parameters[1:], arguments)


if __name__ == "__main__":
    unittest.main()
