"""Point 2 and the interface's optionwood/sets.py: sets of options as whole numbers."""

import itertools
import unittest

from optionwood.sets import has, open_options, options_of, size_of, with_option

ALL_NINE = 2 ** 9 - 1


class SetsTest(unittest.TestCase):
    def test_set_without_options(self):
        self.assertEqual(options_of(0), [])
        self.assertEqual(size_of(0), 0)
        for k in range(9):
            self.assertIs(has(0, k), False)

    def test_set_of_all_nine(self):
        self.assertEqual(options_of(ALL_NINE), [0, 1, 2, 3, 4, 5, 6, 7, 8])
        self.assertEqual(size_of(ALL_NINE), 9)
        for k in range(9):
            self.assertIs(has(ALL_NINE, k), True)

    def test_sets_of_one(self):
        for k in range(9):
            self.assertEqual(options_of(2 ** k), [k])
            self.assertEqual(size_of(2 ** k), 1)
            for other in range(9):
                self.assertIs(has(2 ** k, other), other == k)

    def test_some_by_hand(self):
        self.assertEqual(options_of(5), [0, 2])
        self.assertEqual(options_of(6), [1, 2])
        self.assertEqual(options_of(256 + 16 + 1), [0, 4, 8])
        self.assertEqual(size_of(256 + 16 + 1), 3)

    def test_every_set_of_nine_options(self):
        met = set()
        for size in range(10):
            for options in itertools.combinations(range(9), size):
                some = sum(2 ** k for k in options)
                met.add(some)
                told = options_of(some)
                self.assertIs(type(told), list)
                self.assertEqual(told, list(options))
                self.assertIs(type(size_of(some)), int)
                self.assertEqual(size_of(some), size)
                for k in range(9):
                    self.assertIs(has(some, k), k in options)
        self.assertEqual(met, set(range(ALL_NINE + 1)))

    def test_told_list_is_the_askers_own(self):
        for some in (0, 1, 5, 273, ALL_NINE):
            right = [k for k in range(9) if some // 2 ** k % 2]
            told = options_of(some)
            told.append(7)
            told[0] = 99
            self.assertEqual(options_of(some), right)
            told = options_of(some)
            told.clear()
            self.assertEqual(options_of(some), right)
            self.assertEqual(size_of(some), len(right))
            for k in range(9):
                self.assertIs(has(some, k), k in right)

    def test_earlier_list_stays(self):
        told = options_of(5)
        self.assertIsNot(options_of(5), told)
        options_of(ALL_NINE)
        self.assertEqual(told, [0, 2])

    def test_somewhat_beyond_nine(self):
        self.assertEqual(options_of(2 ** 12 + 1), [0, 12])
        self.assertEqual(size_of(2 ** 12 + 1), 2)
        self.assertIs(has(2 ** 12 + 1, 12), True)
        self.assertIs(has(1, 12), False)
        self.assertIs(has(ALL_NINE, -1), False)

    def test_with_option(self):
        self.assertEqual(with_option(0, 0), 1)
        self.assertEqual(with_option(1, 8), 257)
        self.assertEqual(with_option(257, 8), 257)

    def test_open_options(self):
        self.assertEqual(open_options(4, 0, 0), [0, 1, 2, 3])
        self.assertEqual(open_options(4, 1, 4), [1, 3])
        self.assertEqual(open_options(4, 4, 1), [1, 3])
        self.assertEqual(open_options(4, 9, 6), [])


if __name__ == "__main__":
    unittest.main()
