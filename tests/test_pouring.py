"""Points 15 and 16, as far as they speak of numbers alone, and of point 2 what is told of poured lists."""

import math
import unittest

from stonelay.pouring import choices, poured

HUGE = 10 ** 999


class ChoicesTest(unittest.TestCase):
    def test_none_chosen(self):
        for n in range(65):
            self.assertEqual(choices(n, 0), 1)

    def test_more_than_there_are(self):
        for n in range(65):
            for k in (n + 1, n + 2, n + 64, 1000, HUGE):
                self.assertEqual(choices(n, k), 0)

    def test_all_and_one(self):
        for n in range(1, 65):
            self.assertEqual(choices(n, n), 1)
            self.assertEqual(choices(n, 1), n)
            self.assertEqual(choices(n, n - 1), n)

    def test_written_out(self):
        self.assertEqual(choices(0, 0), 1)
        self.assertEqual(choices(0, 1), 0)
        self.assertEqual([choices(4, k) for k in range(6)], [1, 4, 6, 4, 1, 0])
        self.assertEqual(choices(64, 32), 1832624140942590534)
        self.assertEqual(choices(64, 31), 1777090076065542336)
        self.assertEqual(choices(64, 64), 1)
        self.assertEqual(choices(64, 65), 0)

    def test_each_n_and_k(self):
        for n in range(65):
            for k in range(70):
                self.assertEqual(choices(n, k), math.comb(n, k), (n, k))
                self.assertIs(type(choices(n, k)), int)


class PouredTest(unittest.TestCase):
    def check(self, one, other, told):
        with self.subTest(one=one, other=other):
            self.assertEqual(poured(one, other), told)
            self.assertEqual(poured(other, one), told)

    def test_of_the_same_length(self):
        self.check([0, 2, 0], [0, 1, 1], [0, 0, 2, 2, 0])
        self.check([1, 2], [3, 4], [3, 10, 8])

    def test_of_unlike_length(self):
        self.check([1, 1], [1, 2, 3, 4], [1, 3, 5, 7, 4])
        self.check([2, 0, 5], [7, 1], [14, 2, 35, 5])
        self.check([1, 1], [1, 6, 15, 20, 15, 6, 1], [1, 7, 21, 35, 35, 21, 7, 1])

    def test_of_one_number(self):
        self.check([3], [4], [12])
        self.check([1], [1], [1])
        self.check([1], [5, 0, 7], [5, 0, 7])
        self.check([2], [5, 0, 7], [10, 0, 14])
        self.check([0], [5, 0, 7], [0, 0, 0])
        self.check([0], [0], [0])

    def test_noughts_at_the_end_are_kept(self):
        self.check([1, 0], [1, 0], [1, 0, 0])
        self.check([1, 0, 0], [2], [2, 0, 0])
        self.check([0, 3, 0, 0], [0, 1, 0], [0, 0, 3, 0, 0, 0])
        self.check([0, 0], [0, 0, 0], [0, 0, 0, 0])
        self.check([0, 0, 0], [1, 2, 3], [0, 0, 0, 0, 0])

    def test_great_numbers(self):
        self.check([HUGE, 1], [HUGE, 2], [HUGE * HUGE, 3 * HUGE, 2])

    def test_choices_poured_together_are_choices(self):
        for one in range(33):
            other = 64 - one
            told = poured([choices(one, k) for k in range(one + 1)], [choices(other, k) for k in range(other + 1)])
            self.assertEqual(told, [math.comb(64, k) for k in range(65)])

    def test_a_list_of_whole_numbers(self):
        told = poured([0, 1], [1, 0, 2])
        self.assertIs(type(told), list)
        self.assertEqual({type(many) for many in told}, {int})

    def test_nothing_handed_in_is_changed(self):
        one, other = [1, 2, 0], [3, 4]
        poured(one, other)
        poured(one, one)
        self.assertEqual((one, other), ([1, 2, 0], [3, 4]))

    def test_the_same_list_twice(self):
        one = [1, 2, 0]
        self.assertEqual(poured(one, one), [1, 4, 4, 0, 0])

    def test_the_list_given_is_the_askers_own(self):
        for one, other in (([1], [5, 6]), ([5, 6], [1]), ([1], [1]), ([1, 2], [3, 4])):
            kept = (list(one), list(other))
            told = poured(one, other)
            expected = list(told)
            one_more = poured(one, other)
            one_more.append(9)
            one_more[0] = 9
            self.assertEqual((one, other), kept)
            self.assertEqual(poured(one, other), expected)
            one.clear()
            other[0] = 9
            self.assertEqual(told, expected)


if __name__ == "__main__":
    unittest.main()
