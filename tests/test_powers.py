"""Products of powers [4]."""

import unittest
from fractions import Fraction
from itertools import product
from math import comb, gcd, lcm
from random import Random

from seenlots.errors import NoPaper, Unfit
from seenlots.powers import compared, first_above, is_powers, part_at, powers_of, powers_over, powers_times
from seenlots.powers import powers_to, ranked, root_part, whole_part, worth_of
from tests.tools import agreed, check_thing, deep

HALF, THIRD, ONE, NONE = (1, 2), (1, 3), (1, 1), (0, 1)
EXPONENTS = ((0, 1), (1, 1), (-1, 1), (1, 2), (-1, 2), (2, 3), (-3, 2))
PAIRS = tuple(product((1, 2, 3, 4, 6, 8, 9, 12), EXPONENTS))
BIG = 10 ** 12


def to_power(powers, many):
    """The product to the power many, a Fraction, many times each FRACTION being whole."""
    value = Fraction(1)
    for number, (top, bottom) in powers:
        value *= Fraction(number) ** (top * many // bottom)
    return value


def common(*several):
    return lcm(*[much[1] for powers in several for _, much in powers])


def order(one, other):
    """How two products compare, worked out by whole numbers."""
    many = common(one, other)
    first, second = to_power(one, many), to_power(other, many)
    return (first > second) - (first < second)


def small_powers():
    """Some hundred POWERS of up to three pairs."""
    some = Random(4)
    found = [()] + [(pair,) for pair in PAIRS]
    found += [tuple(some.choices(PAIRS, k=2)) for _ in range(60)]
    return found + [tuple(some.choices(PAIRS, k=3)) for _ in range(60)]


def any_fraction(some, most):
    while True:
        bottom = some.randint(1, 24)
        top = some.randint(-most * bottom, most * bottom)
        if gcd(top, bottom) == 1:
            return (top, bottom)


def any_powers(some, many=24, most=24):
    """POWERS at the bounds: 24 pairs, numbers to 10 ** 12, exponents and bottoms to 24."""
    return tuple((some.randint(1, BIG), any_fraction(some, most)) for _ in range(many))


class Is(unittest.TestCase):
    def test_is_powers(self):
        good = [(), ((1, NONE),), ((2, HALF), (2, HALF)), ((10 ** 60, (-7, 3)), (5, (10 ** 40, 1))), ((3, (1, 10 ** 30)),)]
        check_thing(self, is_powers, good=good)
        bad = [((0, ONE),), ((-2, ONE),), ((2, (2, 4)),), ((2, (0, 2)),), ((2, (1, 0)),), ((2, (1, -1)),), ((2, (-1, -1)),),
               ((2, ONE, ONE),), ((2,),), (2, ONE), ((2, (1, 1, 1)),), ((True, ONE),), ((2, (True, 1)),), ((2, (1, True)),),
               ((2, 1),), ((2, ONE), ()), ((2, ONE), 3), "", None, deep(tuple, 100), ((2, deep(tuple, 98)),)]
        for thing in bad:
            self.assertIs(is_powers(thing), False, thing)


class Written(unittest.TestCase):
    def test_powers_of(self):
        self.assertEqual(agreed(self, powers_of, (4, 9), (HALF, THIRD)), ((4, HALF), (9, THIRD)))
        self.assertEqual(agreed(self, powers_of, (), ()), ())
        self.assertEqual(agreed(self, powers_of, (1,), (NONE,)), ((1, NONE),))
        for numbers, shares in (((4,), ()), ((), (ONE,)), ((4, 9), (ONE,)), ((4,), (ONE, ONE))):
            with self.assertRaises(Unfit):
                agreed(self, powers_of, numbers, shares)

    def test_times_over_to(self):
        one, other = ((2, HALF), (1, ONE)), ((2, (-2, 3)), (5, NONE))
        self.assertEqual(agreed(self, powers_times, one, other), one + other)
        self.assertEqual(agreed(self, powers_over, one, other), one + ((2, (2, 3)), (5, NONE)))
        self.assertEqual(agreed(self, powers_to, other, (-3, 2)), ((2, ONE), (5, NONE)))
        self.assertEqual(agreed(self, powers_to, one, NONE), ((2, NONE), (1, NONE)))
        self.assertEqual(agreed(self, powers_to, (), HALF), ())
        self.assertEqual(agreed(self, powers_times, (), ()), ())
        self.assertEqual(agreed(self, powers_over, (), other), ((2, (2, 3)), (5, NONE)))

    def test_what_is_meant(self):
        for one, other in zip(small_powers(), reversed(small_powers())):
            many = common(one, other) * 6
            first, second = to_power(one, many), to_power(other, many)
            self.assertEqual(to_power(powers_times(one, other), many), first * second)
            self.assertEqual(to_power(powers_over(one, other), many), first / second)
            self.assertEqual(to_power(powers_to(one, (-2, 3)), many) ** 3, first ** -2)


class Compared(unittest.TestCase):
    def test_all_small(self):
        several = small_powers()
        for one in several[::3]:
            for other in several:
                self.assertEqual(compared(one, other), order(one, other), (one, other))

    def test_ways(self):
        for one, other in zip(small_powers()[::7], small_powers()[::-7]):
            self.assertEqual(agreed(self, compared, one, other), -agreed(self, compared, other, one))
            self.assertEqual(agreed(self, compared, one, one[::-1]), 0)

    def test_equal_in_other_words(self):
        self.assertEqual(compared(((6, HALF),), ((2, HALF), (3, HALF))), 0)
        self.assertEqual(compared(((12, (5, 24)), (18, (5, 24))), ((6, (5, 8)),)), 0)
        self.assertEqual(compared(((1, (24, 1)), (7, NONE)), ()), 0)
        self.assertEqual(compared(((BIG, (1, 12)),), ((10, ONE),)), 0)
        some = Random(5)
        for _ in range(20):
            powers = any_powers(some)
            twice = tuple((number * number, (top, 2 * bottom) if top % 2 else (top // 2, bottom))
                          for number, (top, bottom) in powers)
            self.assertEqual(compared(powers, twice), 0)
            self.assertEqual(compared(powers_times(powers, ((BIG, (1, 24)),)), twice), 1)
            self.assertEqual(compared(powers, powers_times(((BIG - 1, (1, 23)),), twice)), -1)

    def test_very_little_apart(self):
        self.assertEqual(compared(((BIG, HALF), (BIG - 2, HALF)), ((BIG - 1, ONE),)), -1)
        self.assertEqual(compared(((BIG - 1, ONE),), ((BIG, HALF), (BIG - 2, HALF))), 1)
        self.assertEqual(compared(((BIG, (1, 24)),), ((BIG - 1, (1, 24)),)), 1)
        # Differences of order m of log(n): of sign (-1) ** (m + 1), and less than (m / n) ** m.
        for start in (BIG - 40, BIG - 100, 10 ** 6):
            for many in (2, 5, 6, 11, 20, 23):
                # Exponents above 24 are what powers_to returns.
                whole = tuple((start + k, (comb(many, k) * (-1) ** (many - k), 1)) for k in range(many + 1))
                self.assertEqual(compared(whole, ()), (-1) ** (many + 1), (start, many))
                self.assertEqual(compared((), powers_to(whole, (1, 24))), (-1) ** many)

    def test_close_powers_of_two_and_three(self):
        # Good approximations of log 3 by log 2, from below and above by turns.
        for top, bottom in ((1, 1), (2, 1), (3, 2), (8, 5), (19, 12), (65, 41), (84, 53), (485, 306), (1054, 665), (24727, 15601)):
            expected = (2 ** top > 3 ** bottom) - (2 ** top < 3 ** bottom)
            self.assertEqual(compared(((2, (top, 1)),), ((3, (bottom, 1)),)), expected)
            self.assertEqual(compared(((2, (top, bottom)),), ((3, ONE),)), expected)

    def test_at_the_bounds(self):
        some = Random(6)
        several = [any_powers(some) for _ in range(12)]
        for one, other, third in zip(several, several[1:], several[2:]):
            self.assertEqual(compared(one, other), -compared(other, one))
            self.assertEqual(compared(powers_over(one, third), powers_over(other, third)), compared(one, other))
            self.assertEqual(compared(powers_to(one, (-5, 7)), powers_to(other, (-5, 7))), compared(other, one))
        most, least = ((BIG, (24, 1)),) * 24, ((BIG, (-24, 1)),) * 24
        self.assertEqual((compared(most, least), compared(least, most), compared(most, most)), (1, -1, 0))
        self.assertEqual(compared(most, most[1:] + ((BIG - 1, (24, 1)),)), 1)

    def test_returned_again(self):
        powers = ((2, (3, 1)), (7, (-1, 2)))
        great = powers_to(powers_to(powers, (10 ** 9 + 7, 3)), (10 ** 12, 11))
        self.assertEqual(compared(great, powers_times((), great)), 0)
        self.assertEqual(compared(powers_times(great, powers), great), 1)
        self.assertEqual(compared(great, powers_times(powers, great)), -1)
        self.assertEqual(compared(((10 ** 400 + 1, HALF),), ((10 ** 200, ONE),)), 1)
        self.assertEqual(compared(((10 ** 400, HALF),), ((10 ** 200, ONE),)), 0)


class Ranked(unittest.TestCase):
    def test_ranked(self):
        several = small_powers()
        some = Random(7)
        for count in range(9):
            for _ in range(12):
                chosen = tuple(some.choices(several[:30] if count > 4 else several, k=count))
                places = agreed(self, ranked, chosen)
                self.assertEqual(sorted(places), list(range(count)))
                for first, then in zip(places, places[1:]):
                    sign = order(chosen[first], chosen[then])
                    self.assertTrue(sign < 0 or (sign == 0 and first < then), chosen)

    def test_ties(self):
        equal = (((4, HALF),), ((2, ONE),), ((8, THIRD),), ((1, ONE), (2, ONE)))
        self.assertEqual(ranked(equal), (0, 1, 2, 3))
        self.assertEqual(ranked(equal + ((),) + equal[:3]), (4, 0, 1, 2, 3, 5, 6, 7))
        self.assertEqual(ranked((((BIG - 1, ONE),), ((BIG, HALF), (BIG - 2, HALF)))), (1, 0))


class Worth(unittest.TestCase):
    def test_all_small(self):
        for powers in small_powers():
            many = common(powers)
            worth = agreed(self, worth_of, powers)
            value = to_power(powers, many)
            roots = [Fraction(top, bottom) for top in range(1, 400) for bottom in (1, 2, 3, 4, 6, 8, 9, 12, 16, 18, 24, 27)
                     if Fraction(top, bottom) ** many == value]
            if worth is None:
                self.assertEqual(roots, [], powers)
            else:
                self.assertEqual(Fraction(*worth) ** many, value, powers)
                self.assertEqual(gcd(*worth), 1)
                self.assertGreater(worth[1], 0)

    def test_great(self):
        self.assertEqual(worth_of(((BIG, (24, 1)),)), (10 ** 288, 1))
        self.assertEqual(worth_of(((BIG, (1, 24)), (BIG, (1, 24)))), (10, 1))
        self.assertEqual(worth_of(((BIG, (1, 24)),)), None)
        self.assertEqual(worth_of(((2, (1, 24)), (3, (1, 23)))), None)
        self.assertEqual(worth_of(((BIG, (-5, 6)), (7, NONE), (1, (1, 7)))), (1, 10 ** 10))
        self.assertEqual(worth_of(((12, HALF), (27, HALF))), (18, 1))
        self.assertEqual(worth_of(((12, HALF), (27, (-1, 2)))), (2, 3))
        self.assertEqual(worth_of(((999_999_000_001, HALF), (999_999_000_001, HALF))), (999_999_000_001, 1))
        self.assertEqual(worth_of(((10 ** 80, (1, 40)),)), (100, 1))


class Parts(unittest.TestCase):
    def check_part(self, powers, many, top, bottom):
        """top/bottom is at most the product, (top/bottom) + 1/many is above it, and many times it is whole."""
        self.assertEqual(many % bottom, 0)
        whole, rest = top * (many // bottom), common(powers)
        value = to_power(powers, rest)
        self.assertLessEqual(Fraction(whole, many) ** rest, value, powers)
        self.assertGreater(Fraction(whole + 1, many) ** rest, value, powers)

    def test_small(self):
        for powers in small_powers():
            self.check_part(powers, 1, agreed(self, whole_part, powers), 1)
            for many in (1, 2, 7, 100, 10 ** 6):
                top, bottom = part_at(powers, many)
                self.assertEqual(gcd(top, bottom), 1)
                self.check_part(powers, many, top, bottom)
        self.assertEqual(agreed(self, part_at, ((2, HALF),), 100), (141, 100))
        self.assertEqual(agreed(self, part_at, ((2, (-1, 1)),), 4), HALF)

    def test_edges(self):
        self.assertEqual(whole_part(()), 1)
        self.assertEqual(whole_part(((BIG, (-24, 1)),) * 24), 0)
        self.assertEqual(part_at(((BIG, (-24, 1)),) * 24, 10 ** 6), NONE)
        self.assertEqual(part_at((), 10 ** 6), ONE)
        self.assertEqual(part_at(((3, (-1, 1)),), 10 ** 6), (333_333, 10 ** 6))
        self.assertEqual(part_at(((10 ** 6, (-1, 1)),), 10 ** 6), (1, 10 ** 6))
        self.assertEqual(part_at(((10 ** 6 + 1, (-1, 1)),), 10 ** 6), NONE)

    def test_great(self):
        self.assertEqual(whole_part(((BIG, (5, 36)),) * 24), 10 ** 40)
        self.assertEqual(whole_part(((BIG, (10, 3)),)), 10 ** 40)
        # The root of n / (n - 1) is 1 + 1/2n + 3/8nn + 5/16nnn and so on.
        self.assertEqual(whole_part(((BIG, (10, 3)), (BIG, HALF), (BIG - 1, (-1, 2)))),
                         10 ** 40 + 5 * 10 ** 27 + 375 * 10 ** 13 + 3125)
        self.assertEqual(whole_part(((BIG, HALF), (BIG - 2, HALF))), BIG - 2)
        self.assertEqual(whole_part(((BIG, HALF), (BIG - 2, HALF), (BIG, ONE))), BIG * (BIG - 1) - 1)
        # The root of (N - 1) (N + 1) is less than N by 1 in 2 N, N being 10 ** 20.
        below, above = (10 ** 10 - 1, 10 ** 10 + 1), (10_001, 1_676_321, 5_964_848_081)
        almost = tuple((number, HALF) for number in below + above)
        self.assertEqual(whole_part(almost), 10 ** 20 - 1)
        self.assertEqual(compared(almost, ((10, (20, 1)),)), -1)
        self.assertEqual(part_at(almost, 10 ** 6), (10 ** 26 - 1, 10 ** 6))
        self.assertEqual(whole_part(powers_over(((10, (40, 1)),), almost)), 10 ** 20)
        some = Random(8)
        for _ in range(12):
            powers = tuple((some.randint(1, BIG), (some.randint(-3, 3), some.choice((1, 2, 3)))) for _ in range(4))
            powers = tuple((number, (top, bottom) if gcd(top, bottom) == 1 else ONE) for number, (top, bottom) in powers)
            if order(powers, ((10, (40, 1)),)) <= 0:
                self.check_part(powers, 1, whole_part(powers), 1)
                self.check_part(powers, 10 ** 6, *part_at(powers, 10 ** 6))

    def test_many_roots(self):
        # 24 roots of unlike order, against what compared tells.
        some = Random(9)
        for _ in range(6):
            powers = tuple((some.randint(1, BIG), (1, bottom)) for bottom in range(3, 25))
            part = whole_part(powers)
            self.assertLessEqual(compared(((part, ONE),), powers), 0)
            self.assertEqual(compared(((part + 1, ONE),), powers), 1)

    def test_root_part(self):
        for many in range(1, 41):
            for number in list(range(70)) + [BIG, 10 ** 40, 2 ** 200, 2 ** 200 - 1, 2 ** 200 + 1]:
                root = root_part(number, many)
                self.assertTrue(root ** many <= number < (root + 1) ** many, (number, many))
            for root in (2, 3, 10, BIG):
                self.assertEqual(root_part(root ** many, many), root)
                if many > 1:
                    self.assertEqual(root_part(root ** many - 1, many), root - 1)
                self.assertEqual(root_part(root ** many + 1, many), root + (many == 1))
        self.assertEqual(agreed(self, root_part, 63, 3), 3)
        self.assertEqual(agreed(self, root_part, 0, 40), 0)


class FirstAbove(unittest.TestCase):
    def test_small(self):
        for powers, other in zip(small_powers() * 2, reversed(small_powers()[5:] + small_powers())):
            sign = order(powers, ())
            if order((), other) <= 0 and sign <= 0:
                with self.assertRaises(NoPaper):
                    agreed(self, first_above, powers, other)
                continue
            found = agreed(self, first_above, powers, other)
            self.assertEqual(order(powers_to(powers, (found, 1)), other), 1)
            if found > 0:
                self.assertLessEqual(order(powers_to(powers, (found - 1, 1)), other), 0)

    def test_edges(self):
        self.assertEqual(first_above(((2, ONE),), ((8, ONE),)), 4)
        self.assertEqual(first_above(((2, ONE),), ()), 1)
        self.assertEqual(first_above(((2, (-1, 1)),), ((2, (-1, 1)),)), 0)
        self.assertEqual(first_above(((1_000_001, ONE), (1_000_000, (-1, 1))), ((2, ONE),)), 693_148)
        self.assertEqual(first_above(((2, (1, 10 ** 6)),), ((2, ONE),)), 10 ** 6 + 1)
        for powers, other in (((), ()), ((), ((2, ONE),)), (((3, (-1, 2)),), ()), (((5, NONE),), ((1, ONE),))):
            with self.assertRaises(NoPaper):
                first_above(powers, other)

    def test_great(self):
        some = Random(10)
        for _ in range(10):
            powers, other = any_powers(some), any_powers(some)
            if compared(powers, ()) > 0 and compared(other, ()) >= 0:
                found = first_above(powers, other)
                self.assertEqual(compared(powers_to(powers, (found, 1)), other), 1)
                self.assertLessEqual(compared(powers_to(powers, (found - 1, 1)), other), 0)


if __name__ == "__main__":
    unittest.main()
