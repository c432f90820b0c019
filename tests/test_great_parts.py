"""Whole parts of products near the greatest that are promised [4], judged by whole numbers alone, and many of them."""

import unittest
from fractions import Fraction
from math import gcd
from random import Random

from seenlots.powers import compared, first_above, part_at, powers_over, powers_times, root_part, whole_part
from tests.test_powers import common, to_power

BIG = 10 ** 12
ONE, HALF = (1, 1), (1, 2)
MANY = (1, 2, 3, 7, 10, 999_983, 10 ** 6)


def reduced(top, bottom):
    return (top // gcd(top, bottom), bottom // gcd(top, bottom))


class Near(unittest.TestCase):
    def check(self, powers, many=1):
        """The greatest number that, divided by many, is at most the product, by whole numbers alone."""
        top, bottom = part_at(powers, many)
        self.assertEqual(gcd(top, bottom), 1)
        self.assertEqual(many % bottom, 0)
        whole, times = top * (many // bottom), common(powers)
        value = to_power(powers, times)
        self.assertLessEqual(Fraction(whole, many) ** times, value, powers)
        self.assertGreater(Fraction(whole + 1, many) ** times, value, powers)
        if many == 1:
            self.assertEqual(whole_part(powers), whole)
        return whole

    def test_whole_powers(self):
        for number in (BIG, BIG - 1, BIG - 2, BIG // 2 + 1, 10 ** 10 + 1, 10 ** 9 - 1, 10 ** 6, 10 ** 4 + 1):
            for times in range(1, 11):
                if number ** times <= 10 ** 40:
                    self.assertEqual(whole_part(((number, (times, 1)),)), number ** times)
                    self.assertEqual(part_at(((number, (times, 1)),), 10 ** 6), (number ** times, 1))
        self.assertEqual(whole_part(((BIG, (3, 1)),)), 10 ** 36)
        self.assertEqual(whole_part(((BIG, (4, 1)), (10, (-8, 1)))), 10 ** 40)
        self.assertEqual(whole_part(((BIG, (10, 3)),)), 10 ** 40)
        self.assertEqual(part_at(((BIG, (17, 6)),), 10 ** 6), (10 ** 34, 1))
        # The greatest numbers whose powers are below 10 ** 40, and the next ones.
        for times in range(2, 14):
            root = root_part(10 ** 40, times)
            self.assertTrue(root ** times <= 10 ** 40 < (root + 1) ** times)
            for number in (root - 1, root, root + 1):
                self.assertEqual(whole_part(((number, (times, 1)),)), number ** times)

    def test_next_numbers(self):
        for number in (BIG - 1, BIG, BIG - 3, 10 ** 8 - 1, 10 ** 8 + 1, 10 ** 4 - 1, 10 ** 4 + 1):
            for bottom in (2, 3, 4, 5, 6, 7, 8, 9, 11, 12, 13, 23, 24):
                most = 40 * bottom // (len(str(number)) - 1)
                for top in {most, most - 1, most - bottom + 1, most // 2}:
                    powers = ((number, reduced(top, bottom)),)
                    if to_power(powers, bottom) <= 10 ** (40 * bottom):
                        self.check(powers)
                        self.check(powers, 10 ** 6)

    def test_by_less_than_one(self):
        # The root of (N - 1) (N + 1) is less than N by 1 in 2 N; a number and its next one to powers that nearly meet.
        for number in (BIG - 1, 10 ** 11 + 7, 10 ** 9):
            powers = ((number - 1, HALF), (number + 1, HALF))
            self.assertEqual(whole_part(powers), number - 1)
            for more in (ONE, (2, 1), (7, 3), (9, 4)):
                if number ** 3 <= 10 ** 40 or more[0] < 3 * more[1]:
                    self.check(powers_times(powers, ((number, more),)))
                    self.check(powers_times(powers, ((number, more),)), 999_983)

    def test_unlike_bottoms(self):
        some = Random(61)
        count = 0
        while count < 250:
            bottoms = some.choice(((2, 3), (4, 5, 6), (7, 8), (9, 10, 12), (11, 13), (5, 7, 11), (16, 24, 3, 2), (23, 2)))
            powers = tuple((some.randint(BIG // 10 ** some.randint(0, 11), BIG), reduced(some.randint(-2 * bottom, 3 * bottom), bottom))
                           for bottom in bottoms)
            size = compared(powers, ((10, (40, 1)),)), compared(powers, ((10, (28, 1)),))
            if size[0] <= 0 and (size[1] > 0 or count % 5 == 0):
                self.check(powers)
                self.check(powers, some.choice(MANY))
                count += 1

    def test_whole_by_unlike_roots(self):
        # Products that are numbers only all together, and the next ones of these.
        powers = ((2 ** 35, (1, 5)), (3 ** 21, (1, 7)), (5 ** 11, (1, 11)), (7 ** 13, (1, 13)))
        self.assertEqual(whole_part(powers), 2 ** 7 * 3 ** 3 * 5 * 7)
        great = powers_times(powers, ((BIG, (5, 2)), (10 ** 3, (1, 1))))
        self.assertEqual(whole_part(great), 2 ** 7 * 3 ** 3 * 5 * 7 * 10 ** 33)
        self.assertEqual(part_at(great, 10 ** 6), (2 ** 7 * 3 ** 3 * 5 * 7 * 10 ** 33, 1))
        for less in ((BIG - 1, (1, 19)), (10 ** 6 + 1, (1, 17))):
            below = powers_over(powers_times(great, (less,)), ((less[0] + 1, less[1]),))
            self.assertEqual(compared(((whole_part(below), ONE),), below), -1)
            self.assertEqual(compared(((whole_part(below) + 1, ONE),), below), 1)
        thirds = ((2, (1, 3)), (4, (1, 3)), (BIG, (2, 1)), (5 ** 16, (13, 24)), (5 ** 16, (11, 24)))
        self.assertEqual(self.check(thirds), 2 * 5 ** 16 * 10 ** 24)

    def test_far_below_one(self):
        for powers in (((BIG, (-10, 3)),), ((BIG, (-1, 24)),), ((3, (1, 2)), (2, (-1, 1))), ((BIG - 1, (5, 7)), (BIG, (-5, 7)))):
            self.assertEqual(whole_part(powers), 0)
            self.check(powers, 10 ** 6)

    def test_great_ones_end(self):
        # Beyond what is promised, but returned by other functions.
        self.assertEqual(whole_part(((10 ** 6, (1000, 1)),)), 10 ** 6000)
        self.assertEqual(whole_part(((10 ** 6, (1001, 2)),)), 10 ** 3003)
        self.assertEqual(whole_part(((10 ** 6, (5005, 12)),)), root_part(10 ** 30030, 12))
        self.assertEqual(root_part(7 ** 3001 - 1, 3001), 6)
        for many in (2, 3, 5, 15, 40):
            for root in (10 ** 300 + 1, 2 ** 999 - 1):
                self.assertEqual(root_part(root ** many, many), root)
                self.assertEqual(root_part(root ** many - 1, many), root - 1)
                self.assertEqual(root_part((root + 1) ** many - 1, many), root)


class Many(unittest.TestCase):
    def test_many_end_soon(self):
        # Some thousands of calls: if one took a second, this would not end in an hour.
        for k in range(700):
            self.assertEqual(whole_part(((BIG - k, (3, 1)),)), (BIG - k) ** 3)
            whole = whole_part(((BIG - k, (10, 3)),))
            self.assertTrue(whole ** 3 <= (BIG - k) ** 10 < (whole + 1) ** 3)
            top, bottom = part_at(((BIG - k, (17, 6)),), 10 ** 6)
            self.assertLessEqual(top ** 6, (BIG - k) ** 17 * bottom ** 6)
        some = Random(62)
        for _ in range(300):
            powers = tuple((some.randint(1, BIG), (some.randint(1, 5) * bottom // 24 * 2 + 1, bottom)) for bottom in (2, 4, 8, 16))
            powers += tuple((some.randint(1, BIG), (-1, bottom)) for bottom in (23, 19, 17, 13))
            whole = whole_part(powers)
            self.assertLessEqual(compared(((whole, ONE),), powers), 0)
            self.assertEqual(compared(((whole + 1, ONE),), powers), 1)

    def test_first_above_ends_soon(self):
        for k in range(1, 300):
            powers, other = ((10 ** 6 + k, ONE), (10 ** 6, (-1, 1))), ((2, ONE),)
            found = first_above(powers, other)
            self.assertEqual(compared(((10 ** 6 + k, (found, 1)),), ((10 ** 6, (found, 1)), (2, ONE))), 1)
            self.assertLessEqual(compared(((10 ** 6 + k, (found - 1, 1)),), ((10 ** 6, (found - 1, 1)), (2, ONE))), 0)


if __name__ == "__main__":
    unittest.main()
