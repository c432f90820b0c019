"""Weights on images [19]."""

import unittest
from fractions import Fraction
from itertools import product
from math import lcm
from random import Random

from seenlots.errors import Unfit
from seenlots.holds import holds
from seenlots.lots import image_sizes, keeps, shown_lot
from seenlots.powers import compared, is_powers
from seenlots.weights import carried, greatest, is_weight, is_weights, is_within_limit, laid, limit, mass, moved, ones, product_at
from seenlots.weights import total, weight_times, whole_total
from tests.shares import BLIND, HALF, NONE, ONE, THIRD, fraction, is_blind, value
from tests.sights import CRATE, EDGES, SLANT, some_sights
from tests.tools import ODD, agreed, check_thing, deep, dot, points

FIRST, THEN = (((0,), (1, 1)), ((1,), (2, 1))), (((0,), (3, 1)), ((1,), (1, 2)))
SOME = (FIRST, THEN, (((0,), (1, 1)), ((2,), (4, 1))))
SIGHTS = [SLANT, CRATE] + list(EDGES) + some_sights(51, 40, 1) + some_sights(52, 40, 2)
PLAIN = [NONE, ONE, HALF, THIRD, (1, 4), (1, 12)]


def told_seen(view, point):
    return tuple(dot(row, point) for row in view)


def told_product(sight, weights, point):
    """The product at a POINT, a Fraction."""
    result = Fraction(1)
    for view, weight in zip(sight[1], weights, strict=True):
        result *= value(dict(weight).get(told_seen(view, point), NONE))
    return result


def some_much(some):
    return fraction(Fraction(some.randint(1, some.choice((3, 1000))), some.randint(1, 12)))


def some_weights(some, sight, most=4, reach=1):
    """WEIGHTS on what some POINTS show, and now and then on an image that no POINT shows."""
    size, views = sight
    found = []
    several = [tuple(some.randint(-reach, reach) for _ in range(size)) for _ in range(most)]
    for view in views:
        images = {told_seen(view, point) for point in several[:some.randint(1, most)]}
        if some.random() < 0.3:
            images.add(tuple(some.randint(-5, 5) for _ in view))
        found.append(tuple((image, some_much(some)) for image in sorted(images)))
    return tuple(found)


def told_within(shares, sums, weights):
    """Whether a sum, a Fraction, is at most the limit for plain shares, by whole numbers."""
    many = lcm(*[bottom for _, bottom in shares])
    result = Fraction(1)
    for (top, bottom), weight in zip(shares, weights, strict=True):
        if top:
            result *= sum(value(much) ** bottom for _, much in weight) ** (many // bottom)
        else:
            result *= max(value(much) for _, much in weight) ** many
    return sums ** many <= result


class Weight(unittest.TestCase):
    def test_is_weight(self):
        good = [FIRST, (((5,), (1000, 7)),), (((-10 ** 30,), (1, 10 ** 30)), ((0,), (1, 1)), ((1,), (7, 2)))]
        check_thing(self, is_weight, ((1, 0),), good=good)
        check_thing(self, is_weight, ((1, 0), (0, 1)), good=[(((0, 0), (1, 2)), ((0, 1), (1, 2)))])
        check_thing(self, is_weight, (), good=[(((), (5, 3)),)])
        for thing in ((), FIRST[::-1], (((0,), NONE),), (((0,), (-1, 2)),), (((0,), ONE), ((0,), (2, 1))), (((0,), (2, 4)),), (((0, 0), ONE),),
                      (((), ONE),), ((0,), ONE), (((0,), ONE, ONE),), (((1,), ONE), ((0,), ONE)), (((0,), deep(tuple, 97)),), deep(tuple, 100)):
            self.assertIs(is_weight(((1, 0),), thing), False, thing)
        self.assertIs(agreed(self, is_weight, ((2, 2),), THEN), True)

    def test_is_weights(self):
        check_thing(self, is_weights, SLANT, good=[SOME, (SOME[2], FIRST, (((7,), (1, 3)),))])
        check_thing(self, is_weights, (3, ()), good=[()])
        check_thing(self, is_weights, (1, ((), ((2,), (3,)))), good=[((((), ONE),), (((2, 3), (1, 2)),))])
        for thing in (SOME[:2], SOME + SOME[:1], (FIRST, THEN, ()), (), (FIRST, THEN, (((0, 0), ONE),)), (FIRST, THEN, None), deep(tuple, 100)):
            self.assertIs(is_weights(SLANT, thing), False, thing)
        for sight in SIGHTS:
            self.assertIs(agreed(self, is_weights, sight, some_weights(Random(1), sight)), True)

    def test_one_weight(self):
        some = Random(53)
        for _ in range(150):
            width = some.randint(0, 3)
            images = sorted({tuple(some.randint(-3, 3) for _ in range(width)) for _ in range(some.randint(1, 12))})
            weight = tuple((image, some_much(some)) for image in images)
            for image in images + [tuple(some.randint(-9, 9) for _ in range(width)) for _ in range(2)]:
                self.assertEqual(agreed(self, laid, weight, image), dict(weight).get(image, NONE))
            many = some.randint(1, 12)
            self.assertEqual(agreed(self, mass, weight, many), fraction(sum(value(much) ** many for _, much in weight)))
            self.assertEqual(agreed(self, greatest, weight), fraction(max(value(much) for _, much in weight)))
            much = some_much(some)
            told = agreed(self, weight_times, weight, much)
            self.assertEqual(told, tuple((image, fraction(value(part) * value(much))) for image, part in weight))
            self.assertIs(is_weight(((0,),) * width, told), True)
            self.assertEqual(mass(told, 1), fraction(value(mass(weight, 1)) * value(much)))
        self.assertEqual((laid((((), (2, 3)),), ()), mass((((), (2, 3)),), 2), greatest((((), (2, 3)),))), ((2, 3), (4, 9), (2, 3)))


class Sums(unittest.TestCase):
    def test_product_and_total(self):
        some = Random(54)
        for sight in SIGHTS:
            weights = some_weights(some, sight)
            lot = tuple(some.sample(points(sight[0], 1), min(9, 3 ** sight[0])))
            for point in lot[:3]:
                self.assertEqual(agreed(self, product_at, sight, weights, point), fraction(told_product(sight, weights, point)))
            told = agreed(self, total, sight, weights, tuple(sorted(lot)))
            self.assertEqual(told, fraction(sum(told_product(sight, weights, point) for point in lot)))
        self.assertEqual((product_at((2, ()), (), (3, 4)), total((2, ()), (), ((0, 0), (3, 4)))), (ONE, (2, 1)))

    def test_carried(self):
        some = Random(55)
        count = 0
        for sight in SIGHTS * 2:
            weights = some_weights(some, sight)
            if is_blind(sight):
                for function in (carried, whole_total):
                    with self.assertRaises(Unfit):
                        agreed(self, function, sight, weights)
                continue
            told = agreed(self, carried, sight, weights)
            self.assertEqual(told, tuple(sorted(set(told))))
            # All of what many POINTS around show, and more: what is carried is found whole.
            around = {point for point in points(sight[0], 4 if sight[0] < 3 else 3) if told_product(sight, weights, point)}
            self.assertLessEqual(around, set(told), (sight, weights))
            self.assertTrue(all(told_product(sight, weights, point) for point in told))
            self.assertTrue(all(point in around for point in told if max(map(abs, point)) <= 3))
            self.assertEqual(agreed(self, whole_total, sight, weights), total(sight, weights, told))
            count += len(told)
        self.assertGreater(count, 120)

    def test_carried_by_all_images(self):
        # All POINTS of which these rows, with an inverse, show any of the images, by solving for each choice.
        for sight, weights, expected in (
                (SLANT, SOME, ((0, 0), (1, 1))),
                ((1, (((2,),), ((3,),))), ((((1,), ONE), ((2,), ONE), ((4,), ONE)), (((3,), ONE), ((5,), ONE), ((6,), HALF))), ((1,), (2,))),
                ((1, (((2,),),)), ((((1,), ONE), ((3,), ONE)),), ()),
                ((2, (((1, 1),), ((1, -1),))), ((((0,), ONE), ((1,), ONE)), (((0,), ONE), ((1,), ONE))), ((0, 0), (1, 0))),
                ((2, (((2, 1), (1, 1), (0, 0)),)), ((((5, 3, 0), ONE), ((5, 3, 1), ONE), ((10 ** 6, 7, 0), ONE)),), ((2, 1), (999993, -999986))),
                ((1, ((), ((0,),), ((1,),))), ((((), (1, 3)),), (((0,), (1, 2)), ((1,), ONE)), (((-4,), ONE), ((4,), ONE))), ((-4,), (4,))),
                ((1, (((0,),), ((1,),))), ((((1,), ONE),), (((4,), ONE),)), ())):
            self.assertEqual(agreed(self, carried, sight, weights), expected)
            self.assertEqual(whole_total(sight, weights), fraction(sum(told_product(sight, weights, point) for point in expected)))

    def test_unfit(self):
        for sight in BLIND + [(1, ()), (3, ())]:
            weights = tuple((((0,) * len(view), ONE),) for view in sight[1])
            for function in (carried, whole_total):
                with self.assertRaises(Unfit):
                    agreed(self, function, sight, weights)
            with self.assertRaises(Unfit):
                agreed(self, is_within_limit, sight, (ONE,) * len(sight[1]), weights)

    def test_bounds(self):
        # 12 pairs in each WEIGHT, four VIEWS of one ROW: up to 1728 POINTS.
        some = Random(56)
        sight = (3, (((1, 0, 0),), ((0, 1, 0),), ((0, 0, 1),), ((1, 1, 1),)))
        weights = tuple(tuple(((k,), some_much(some)) for k in range(12)) for _ in range(4))
        told = carried(sight, weights)
        self.assertEqual(told, tuple(point for point in product(range(12), repeat=3) if sum(point) < 12))
        self.assertEqual(whole_total(sight, weights), total(sight, weights, told))
        shares = ((1, 12), (1, 11), (1, 7), (1, 5))
        self.assertIs(is_within_limit(sight, shares, weights), told_within(shares, value(whole_total(sight, weights)), weights))


class Limit(unittest.TestCase):
    def test_as_written(self):
        some = Random(57)
        for sight in SIGHTS:
            weights = some_weights(some, sight)
            shares = tuple(some.choice(PLAIN) for _ in weights)
            above, below = agreed(self, limit, sight, shares, weights)
            self.assertTrue(is_powers(above) and is_powers(below))
            expected = [fraction(sum(value(much) ** bottom for _, much in weight) if top else max(value(much) for _, much in weight))
                        for (top, bottom), weight in zip(shares, weights)]
            powers = [share if share[0] else ONE for share in shares]
            self.assertEqual(above, tuple((top, power) for (top, _), power in zip(expected, powers)))
            self.assertEqual(below, tuple((bottom, power) for (_, bottom), power in zip(expected, powers)))
        self.assertEqual(limit((2, ()), (), ()), ((), ()))

    def test_within(self):
        some = Random(58)
        held = broken = 0
        for sight in SIGHTS * 3:
            if is_blind(sight):
                continue
            weights = some_weights(some, sight)
            shares = tuple(some.choice(PLAIN) for _ in weights)
            told = agreed(self, is_within_limit, sight, shares, weights)
            self.assertIs(told, told_within(shares, value(whole_total(sight, weights)), weights))
            if holds(sight, shares):
                self.assertIs(told, True)
                held += 1
                lot = tuple(sorted(some.sample(points(sight[0], 1), 3)))
                above, below = limit(sight, shares, weights)
                sums = total(sight, weights, lot)
                if sums[0]:
                    self.assertLessEqual(compared(((sums[0], ONE),) + below, above + ((sums[1], ONE),)), 0)
            broken += not told
        self.assertGreater(held, 40)
        self.assertGreater(broken, 10)

    def test_by_very_little(self):
        # One place, two VIEWS that show it: the sum of products against the root of both sums of squares.
        sight = (1, (((1,),), ((1,),)))
        for tops, others, expected in (((999, 998), (999, 998), True), ((999, 998), (1000, 999), True), ((1, 2), (2, 4), True), ((1, 1), (1, 1), True)):
            weights = tuple(tuple(((k,), (top, 1)) for k, top in enumerate(several)) for several in (tops, others))
            self.assertIs(is_within_limit(sight, (HALF, HALF), weights), expected)
        # With less than half of one they are beyond it, by very little, too.
        for share, expected in ((HALF, True), (THIRD, False)):
            weights = ((((0,), (1000, 1)), ((1,), (1, 12))), (((0,), (1000, 1)), ((1,), (1, 12))))
            self.assertIs(is_within_limit(sight, (HALF, share), weights), expected)
            self.assertIs(told_within((HALF, share), value(whole_total(sight, weights)), weights), expected)
        one = (1, (((1,),),))
        for share in PLAIN[1:]:
            self.assertIs(is_within_limit(one, (share,), ((((0,), (7, 3)),),)), True)
            self.assertIs(is_within_limit(one, (share,), ((((0,), (1000, 1)), ((1,), (1, 12))),)), share == ONE)
        self.assertIs(is_within_limit(one, (NONE,), ((((0,), (7, 3)),),)), True)
        self.assertIs(is_within_limit(one, (NONE,), ((((0,), (1000, 1)), ((1,), (1, 12))),)), False)
        # No POINT shows any image: the sum is 0.
        self.assertIs(is_within_limit((1, (((2,),),)), (NONE,), ((((1,), ONE),),)), True)

    def test_unfit(self):
        for shares in (((2, 3), HALF, HALF), (HALF, HALF, (11, 12)), (ONE, (3, 4), NONE)):
            for function in (limit, is_within_limit):
                with self.assertRaises(Unfit):
                    agreed(self, function, SLANT, shares, SOME)
        with self.assertRaises(Unfit):
            agreed(self, is_within_limit, (2, (((1, 0),),)), (HALF,), (FIRST,))
        self.assertEqual(agreed(self, limit, (2, (((1, 0),),)), (HALF,), (FIRST,)), (((5, HALF),), ((1, HALF),)))


class Made(unittest.TestCase):
    def test_ones(self):
        some = Random(59)
        for sight in SIGHTS:
            lot = tuple(sorted(some.sample(points(sight[0], 1), min(some.randint(1, 6), 3 ** sight[0]))))
            told = agreed(self, ones, sight, lot)
            self.assertEqual(told, tuple(tuple((image, ONE) for image in shown_lot(view, lot)) for view in sight[1]))
            self.assertEqual(total(sight, told, lot), (len(lot), 1))
            shares = tuple(some.choice(PLAIN) for _ in sight[1])
            # The limit is that of the LOT: the numbers of its images to the shares.
            above, below = limit(sight, shares, told)
            sizes = image_sizes(sight, lot)
            self.assertEqual(compared(above, below + tuple((size, share) for size, share in zip(sizes, shares))), 0)
            if not is_blind(sight) and carried(sight, told) == lot:
                self.assertIs(is_within_limit(sight, shares, told), keeps(sight, shares, lot))

    def test_moved(self):
        some = Random(60)
        for sight in SIGHTS:
            weights = some_weights(some, sight)
            point = tuple(some.randint(-10 ** 6, 10 ** 6) for _ in range(sight[0]))
            told = agreed(self, moved, sight, weights, point)
            self.assertIs(is_weights(sight, told), True)
            for view, weight, other in zip(sight[1], weights, told):
                step = told_seen(view, point)
                self.assertEqual(other, tuple((tuple(part + more for part, more in zip(image, step)), much) for image, much in weight))
            shares = tuple(some.choice(PLAIN) for _ in sight[1])
            self.assertEqual(limit(sight, shares, told), limit(sight, shares, weights))
            if not is_blind(sight):
                self.assertEqual(whole_total(sight, told), whole_total(sight, weights))
                self.assertEqual(carried(sight, told), tuple(tuple(part + more for part, more in zip(start, point)) for start in carried(sight, weights)))

    def test_times_and_greater(self):
        some = Random(61)
        for sight in SIGHTS:
            if is_blind(sight) or not sight[1]:
                continue
            weights = some_weights(some, sight)
            number, much = some.randrange(len(weights)), (some.randint(1, 5), some.choice((7, 11)))
            times = weights[:number] + (weight_times(weights[number], much),) + weights[number + 1:]
            self.assertEqual(value(whole_total(sight, times)), value(whole_total(sight, weights)) * value(much))
            shares = tuple(some.choice(PLAIN) for _ in weights)
            (above, below), (more, less) = limit(sight, shares, weights), limit(sight, shares, times)
            self.assertEqual(compared(more + below + ((much[1], ONE),), above + less + ((much[0], ONE),)), 0)
            # One FRACTION made greater makes neither less.
            image, part = weights[number][0]
            great = weights[:number] + (((image, fraction(value(part) + 1)),) + weights[number][1:],) + weights[number + 1:]
            self.assertGreaterEqual(value(whole_total(sight, great)), value(whole_total(sight, weights)))
            more, less = limit(sight, shares, great)
            self.assertGreaterEqual(compared(more + below, above + less), 0)

    def test_errors_are_raised_for_nothing_odd(self):
        for thing in ODD:
            self.assertIs(is_weights((2, (((1, 0),), ((0, 1),))), thing), False)


if __name__ == "__main__":
    unittest.main()
