"""Point 4: fractions."""

import math
import unittest

from stonelay.fractions import fraction


class FractionTest(unittest.TestCase):
    def test_lowest_terms(self):
        for top, bottom, told in (
            (1, 2, (1, 2)), (6, 4, (3, 2)), (4, 6, (2, 3)), (12, 4, (3, 1)),
            (7, 7, (1, 1)), (5, 1, (5, 1)), (9, 27, (1, 3)), (8, 9, (8, 9)), (1, 1, (1, 1)),
        ):
            with self.subTest(top=top, bottom=bottom):
                self.assertEqual(fraction(top, bottom), told)

    def test_top_of_nought(self):
        for bottom in (1, 2, 12, 10 ** 999):
            self.assertEqual(fraction(0, bottom), (0, 1))

    def test_top_below_nought(self):
        for top, bottom, told in (
            (-1, 2, (-1, 2)), (-6, 4, (-3, 2)), (-4, 6, (-2, 3)), (-12, 4, (-3, 1)), (-7, 7, (-1, 1)),
        ):
            with self.subTest(top=top, bottom=bottom):
                self.assertEqual(fraction(top, bottom), told)

    def test_is_a_tuple_of_two_whole_numbers(self):
        told = fraction(6, 4)
        self.assertIs(type(told), tuple)
        self.assertEqual([type(number) for number in told], [int, int])

    def test_all_small_ones(self):
        for top in range(-40, 41):
            for bottom in range(1, 41):
                told = fraction(top, bottom)
                self.assertGreaterEqual(told[1], 1)
                self.assertEqual(told[0] * bottom, top * told[1])
                self.assertEqual(math.gcd(told[0], told[1]), 1)

    def test_hundreds_of_figures(self):
        common = 3 ** 800 * 7 ** 100
        one = 2 ** 1500
        other = 5 ** 600
        self.assertEqual(fraction(common * one, common * other), (one, other))
        self.assertEqual(fraction(-common * one, common * other), (-one, other))
        self.assertEqual(fraction(common, common), (1, 1))
        # Beyond what a number with a point in it holds exactly.
        self.assertEqual(fraction(10 ** 400 + 1, 10 ** 400), (10 ** 400 + 1, 10 ** 400))

    def test_a_thousand_figures(self):
        top = 10 ** 1000 - 1
        bottom = 10 ** 999
        self.assertEqual(fraction(top, bottom), (top, bottom))
        self.assertEqual(fraction(top, 9), (top // 9, 1))
        self.assertEqual(fraction(9, top), (1, top // 9))

    def test_neighbours_that_take_the_most_rounds(self):
        one = 1
        other = 1
        while len(str(other)) < 1000:
            one, other = other, one + other
        self.assertEqual(fraction(one, other), (one, other))


if __name__ == "__main__":
    unittest.main()
