"""The options' values."""

import unittest

from rateplan import options


class OptionsTest(unittest.TestCase):

    def test_the_five_values(self):
        self.assertEqual(options.BEGIN, 4)
        self.assertEqual(options.AGAIN, 8)
        self.assertEqual(options.MOST, 30)
        self.assertEqual(options.PART, (4, 5))
        self.assertEqual(options.LIMIT, 2000)

    def test_their_kinds(self):
        for worth in (options.BEGIN, options.AGAIN, options.MOST, options.LIMIT, *options.PART):
            self.assertIs(type(worth), int)
        self.assertIs(type(options.PART), tuple)


if __name__ == "__main__":
    unittest.main()
