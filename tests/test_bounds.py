"""Point 15: the bounds."""

import unittest

from tellwords import bounds

BOUNDS = {
    "MAX_KINDS": 3,
    "MAX_LETTERS": 2,
    "MAX_SIGNS": 40,
    "MAX_THINGS": 12,
    "MAX_RULES": 6,
    "MAX_SHORT": 5,
    "MAX_COUNTED": 60,
    "MAX_UNWOUND": 2000,
    "MAX_EDITS": 40,
}


class TestBounds(unittest.TestCase):
    def test_each_bound(self):
        for name, many in BOUNDS.items():
            with self.subTest(name):
                self.assertEqual(getattr(bounds, name), many)
                self.assertIs(type(getattr(bounds, name)), int)


if __name__ == "__main__":
    unittest.main()
