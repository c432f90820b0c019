"""Chances [18]."""

import unittest
from fractions import Fraction
from itertools import product
from math import lcm
from random import Random

from seenlots.breaks import first_break
from seenlots.chances import chances_beside, chances_mixed, chances_seen, chances_shifted, even_chances, given_seen, hold_at
from seenlots.chances import in_common, is_breaking, is_chances, is_even, left_over, tells, width, width_given
from seenlots.errors import Unfit
from seenlots.holds import holds
from seenlots.lots import box, keeps, shown_lot
from seenlots.powers import compared, is_powers, powers_over, powers_times, powers_to, worth_of
from seenlots.views import common_kernel
from tests.shares import FEW, FRACTIONS, HALF, NONE, ONE, fraction, is_blind, some_shares, value
from tests.sights import CRATE, EDGES, SLANT, some_sights
from tests.test_spaces import some_view
from tests.tools import ODD, agreed, check_thing, deep, dot, lists, points

LEAN = (((0, 0), (1, 2)), ((0, 1), (1, 4)), ((1, 0), (1, 4)))
FIRST, SECOND = ((1, 0),), ((0, 1),)
LAST = (((), (1, 1)),)


def told_seen(view, point):
    return tuple(dot(row, point) for row in view)


def told_chances(thing, size):
    """Whether thing, a tuple of pairs of tuples, is CHANCES, by the document's words."""
    heads = [point for point, _ in thing]
    return heads == sorted(set(heads)) and all(len(point) == size for point in heads) and sum(value(much) for _, much in thing) == 1 and (
        all(value(much) > 0 and fraction(value(much)) == much for _, much in thing))


def told_width(chances):
    """The width as a pair of numbers and their common power: numbers to 1 / many."""
    many = lcm(*[much[1] for _, much in chances])
    top = bottom = 1
    for _, much in chances:
        top *= much[1] ** (much[0] * many // much[1])
        bottom *= much[0] ** (much[0] * many // much[1])
    return Fraction(top, bottom), many


def told_powers(powers, many):
    """A product of POWERS to the power many, a Fraction."""
    result = Fraction(1)
    for number, (top, bottom) in powers:
        result *= Fraction(number) ** (top * many // bottom)
    return result


def some_chances(some, size, count, bottom, most=2):
    """CHANCES of at most so many POINTS with numbers to most, the FRACTIONS whole parts of one bottom."""
    heads = sorted({tuple(some.randint(-most, most) for _ in range(size)) for _ in range(min(count, bottom))})
    cuts = sorted(some.sample(range(1, bottom), len(heads) - 1)) if len(heads) > 1 else []
    parts = [late - early for early, late in zip([0] + cuts, cuts + [bottom])]
    return tuple((point, fraction(Fraction(part, bottom))) for point, part in zip(heads, parts))


def each(seed, many, sizes=(0, 1, 2, 3)):
    """Triples (size, chances, some): one POINT, even ones, POINTS without places, and any."""
    some = Random(seed)
    yield 0, LAST, some
    yield 2, (((3, -4), ONE),), some
    yield 2, LEAN, some
    yield 2, even_chances(tuple(points(2, 1))), some
    yield 3, some_chances(some, 3, 24, 24), some
    for _ in range(many):
        size = some.choice(sizes)
        yield size, some_chances(some, size, some.choice((1, 2, 3, 5, 8)), some.choice((2, 3, 4, 6, 8, 12, 23, 24))), some


def some_views(some, size, count):
    """VIEWS, now and then () and of 0s."""
    return tuple(some.choice(((), ((0,) * size,), some_view(some, size, 2), some_view(some, size, 1))) for _ in range(count))


class Chances(unittest.TestCase):
    def test_is_chances(self):
        good = [LEAN, (((5, 5), ONE),), (((-1, 0), (1, 3)), ((10 ** 30, 2), (2, 3))), (((0, 0), (1, 10 ** 20)), ((0, 1), (10 ** 20 - 1, 10 ** 20)))]
        check_thing(self, lambda thing: is_chances(thing, 2), good=good)
        check_thing(self, lambda thing: is_chances(thing, 0), good=[LAST])
        self.assertIs(agreed(self, is_chances, LEAN, 2), True)
        for thing in ((), LEAN[::-1], LEAN[:2], LEAN + LEAN[2:], LEAN + (((1, 1), NONE),), (((0, 0), HALF), ((0, 0), HALF)),
                      (((0, 0), (2, 4)), ((0, 1), HALF)), (((0, 0), (3, 2)), ((0, 1), (-1, 2))), (((0, 0), (-1, -1)),), (((0, 0), (1, 0)),),
                      (((0,), ONE),), (((0, 0, 0), ONE),), (((), ONE),), (((0, 0), 1),), (((0, 0), ONE, ONE),), ((0, 0), ONE),
                      (((0, 1), HALF), ((0, 0), HALF)), (((0, 0), HALF), ((0, 1), (1, 3))), deep(tuple, 100), (((0, 0), deep(tuple, 98)),)):
            self.assertIs(is_chances(thing, 2), False, thing)

    def test_drawn(self):
        for size, chances, _ in each(1, 200):
            self.assertTrue(told_chances(chances, size))
            self.assertIs(is_chances(chances, size), True)
            self.assertIs(is_chances(chances, size + 1), False)

    def test_even(self):
        for lot in (((0, 0),), ((0, 0), (5, 5), (9, -1)), tuple(points(2, 2))[:24], ((3,), (4,)), tuple((k, 0, 0) for k in range(24))):
            told = agreed(self, even_chances, lot)
            self.assertEqual(told, tuple((point, fraction(Fraction(1, len(lot)))) for point in lot))
            self.assertIs(agreed(self, is_even, told), True)
            self.assertEqual(worth_of(width(told)), (len(lot), 1))
        self.assertIs(is_even(LEAN), False)
        self.assertIs(is_even(lists(LEAN[:1] + ([[0, 1], (1, 2)],))), True)
        for _, chances, _ in each(2, 200):
            self.assertIs(is_even(chances), len({much for _, much in chances}) == 1)


class Seen(unittest.TestCase):
    def test_seen_and_given(self):
        for size, chances, some in each(3, 150):
            for view in some_views(some, size, 3) if size else ((),):
                shown = sorted({told_seen(view, point) for point, _ in chances})
                seen = agreed(self, chances_seen, view, chances)
                self.assertEqual(seen, tuple((image, fraction(sum(value(much) for point, much in chances if told_seen(view, point) == image)))
                                             for image in shown))
                self.assertIs(is_chances(seen, len(view)), True)
                given = agreed(self, given_seen, view, chances)
                self.assertEqual(tuple((image, much) for image, much, _ in given), seen)
                for image, much, inner in given:
                    self.assertIs(is_chances(inner, size), True)
                    self.assertEqual(inner, tuple((point, fraction(value(part) / value(much))) for point, part in chances
                                                  if told_seen(view, point) == image))
                told = agreed(self, width_given, view, chances)
                expected = ()
                for _, much, inner in given:
                    expected = powers_times(expected, powers_to(width(inner), much))
                self.assertEqual(told, expected)
                # The width is that of what is seen times that given it.
                self.assertEqual(compared(width(chances), powers_times(width(seen), told)), 0)

    def test_points_without_places(self):
        self.assertEqual(chances_seen((), LEAN), LAST)
        self.assertEqual(chances_seen((), LAST), LAST)
        self.assertEqual(given_seen((), LAST), (((), ONE, LAST),))
        self.assertEqual(chances_seen(((0, 0),), LEAN), (((0,), ONE),))
        self.assertEqual(width_given((), LAST), ((1, ONE), (1, (-1, 1))))

    def test_tells(self):
        count = 0
        for size, chances, some in each(4, 200, (1, 2, 3)):
            view, second = some_views(some, size, 2)
            expected = len({(told_seen(view, point), told_seen(second, point)) for point, _ in chances}) == len(
                {told_seen(view, point) for point, _ in chances})
            self.assertIs(agreed(self, tells, view, second, chances), expected)
            count += expected
        self.assertTrue(20 < count < 180)
        self.assertIs(tells(((2, 1),), FIRST, LEAN), True)
        self.assertIs(tells((), FIRST, LEAN), False)


class Width(unittest.TestCase):
    def test_as_written(self):
        self.assertEqual(agreed(self, width, LEAN), ((2, HALF), (1, (-1, 2)), (4, (1, 4)), (1, (-1, 4)), (4, (1, 4)), (1, (-1, 4))))
        self.assertEqual(agreed(self, width, LAST), ((1, ONE), (1, (-1, 1))))
        self.assertEqual(width((((0,), (2, 3)), ((1,), (1, 3)))), ((3, (2, 3)), (2, (-2, 3)), (3, (1, 3)), (1, (-1, 3))))

    def test_from_1_to_the_points(self):
        for _, chances, _ in each(5, 200):
            told = width(chances)
            self.assertTrue(is_powers(told))
            self.assertEqual(told, tuple(pair for _, much in chances for pair in (
                (much[1], much), (much[0], (-much[0], much[1])))))
            expected, many = told_width(chances)
            if many <= 24:
                self.assertEqual(told_powers(told, many), expected)
            self.assertEqual(compared(told, ()), 1 if len(chances) > 1 else 0)
            self.assertEqual(compared(told, ((len(chances), ONE),)), 0 if is_even(chances) else -1)

    def test_in_common(self):
        ones = 0
        for size, chances, some in each(6, 200, (1, 2, 3)):
            view, second = some_views(some, size, 2)
            told = agreed(self, in_common, view, second, chances)
            both = tuple(view) + tuple(second)
            self.assertEqual(told, powers_over(powers_times(width(chances_seen(view, chances)), width(chances_seen(second, chances))),
                                               width(chances_seen(both, chances))))
            one, other = dict(chances_seen(view, chances)), dict(chances_seen(second, chances))
            joined = dict(chances_seen(both, chances))
            apart = all(value(joined.get(image + more, NONE)) == value(one[image]) * value(other[more])
                        for image, more in product(one, other))
            self.assertEqual(compared(told, ()), 0 if apart else 1)
            ones += apart
        self.assertTrue(20 < ones < 190)
        square = even_chances(((0, 0), (0, 1), (1, 0), (1, 1)))
        self.assertEqual(compared(in_common(FIRST, SECOND, square), ()), 0)
        self.assertEqual(compared(in_common(FIRST, FIRST, square), ((2, ONE),)), 0)
        self.assertEqual(in_common((), (), LAST), ((1, ONE), (1, (-1, 1)), (1, ONE), (1, (-1, 1)), (1, (-1, 1)), (1, ONE)))


class Made(unittest.TestCase):
    def test_mixed(self):
        for size, chances, some in each(7, 150):
            others = [some_chances(some, size, 3, 6) for _ in range(some.randint(0, 2))]
            cuts = [Fraction(1, 3), Fraction(1, 2), Fraction(1, 6)][:len(others) + 1]
            cuts[-1] += 1 - sum(cuts)
            parts = tuple((fraction(much), part) for much, part in zip(cuts, [chances] + others))
            told = agreed(self, chances_mixed, parts)
            heads = sorted({point for _, part in parts for point, _ in part})
            self.assertEqual(told, tuple((point, fraction(sum(value(much) * value(part) for much, inner in parts for other, part in inner
                                                              if other == point))) for point in heads))
            self.assertIs(is_chances(told, size), True)
            # A mix of all that is given, each with its chance, is the whole again.
            if size:
                given = given_seen(some_views(some, size, 1)[0], chances)
                self.assertEqual(chances_mixed(tuple((much, inner) for _, much, inner in given)), chances)
        self.assertEqual(chances_mixed(((ONE, LEAN),)), LEAN)

    def test_beside(self):
        for size, one, some in each(8, 150):
            other = some_chances(some, some.randint(0, 2), 3, 5)
            told = agreed(self, chances_beside, one, other)
            self.assertEqual(told, tuple(sorted((point + more, fraction(value(much) * value(part))) for point, much in one for more, part in other)))
            self.assertIs(is_chances(told, size + len(other[0][0])), True)
            self.assertEqual(compared(width(told), powers_times(width(one), width(other))), 0)
        self.assertEqual(chances_beside(LAST, LEAN), LEAN)
        self.assertEqual(chances_beside(LEAN, LAST), LEAN)

    def test_shifted(self):
        for size, chances, some in each(9, 150):
            point = tuple(some.randint(-10 ** 6, 10 ** 6) for _ in range(size))
            told = agreed(self, chances_shifted, chances, point)
            self.assertEqual(told, tuple((tuple(part + more for part, more in zip(start, point)), much) for start, much in chances))
            self.assertIs(is_chances(told, size), True)
            self.assertEqual(width(told), width(chances))
            self.assertEqual(chances_shifted(told, tuple(-part for part in point)), chances)


SIGHTS = [SLANT, CRATE] + list(EDGES) + some_sights(41, 25, 1) + some_sights(42, 25, 3)


class Hold(unittest.TestCase):
    def test_left_over(self):
        some = Random(43)
        for sight in SIGHTS:
            size, views = sight
            for _ in range(3):
                chances = some_chances(some, size, some.randint(1, 6), some.choice((4, 6, 8, 12)), 1)
                shares = tuple(some.choice(FEW + FRACTIONS) for _ in views)
                told = agreed(self, left_over, sight, shares, chances)
                expected = ()
                for view, share in zip(views, shares):
                    expected = powers_times(expected, powers_to(width(chances_seen(view, chances)), share))
                expected = powers_over(expected, width(chances))
                self.assertEqual(told, expected)
                enough = compared(told, ()) >= 0
                many = lcm(*[much[1] for _, much in told])
                if many <= 288:
                    self.assertIs(told_powers(told, many) >= 1, enough)
                self.assertIs(agreed(self, hold_at, sight, shares, chances), enough)
                self.assertIs(agreed(self, is_breaking, sight, shares, chances), not enough)

    def test_shares_that_hold_do_so_at_all(self):
        some = Random(44)
        count = 0
        for number, sight in enumerate(SIGHTS):
            for shares in some_shares(number, sight, 2)[::2]:
                if not holds(sight, shares):
                    # The box of a BREAK has an image of each VIEW no greater than the room: even CHANCES there break them.
                    space, side = first_break(sight, shares)
                    if side ** len(space) <= 24:
                        lot = box(sight[0], space, side)
                        self.assertFalse(keeps(sight, shares, lot))
                        self.assertIs(hold_at(sight, shares, even_chances(lot)), False)
                        self.assertIs(is_breaking(sight, shares, even_chances(lot)), True)
                        count += 1
                    continue
                for _ in range(3):
                    chances = some_chances(some, sight[0], some.choice((1, 2, 4, 7)), some.choice((3, 8, 12, 24)), 2)
                    self.assertIs(hold_at(sight, shares, chances), True, (sight, shares, chances))
        self.assertGreater(count, 60)

    def test_even_ones_on_lots(self):
        # At even CHANCES no image is wider than it has points: what holds there keeps the LOT.
        some = Random(45)
        for sight in SIGHTS[:30]:
            for shares in some_shares(7, sight, 1):
                lot = tuple(sorted(some.sample(points(sight[0], 1), min(3, 3 ** sight[0]))))
                if hold_at(sight, shares, even_chances(lot)):
                    self.assertTrue(keeps(sight, shares, lot))
                    self.assertTrue(all(len(shown_lot(view, lot)) <= len(lot) for view in sight[1]))

    def test_just_so(self):
        # Equal to the last: one VIEW that tells all, half of two such; without VIEWS only one POINT holds.
        whole = (2, (((1, 0), (0, 1)), ((2, 1), (1, 1))))
        for chances in [chances for size, chances, _ in each(46, 60, (2,)) if size == 2]:
            self.assertIs(hold_at(whole, (HALF, HALF), chances), True)
            self.assertIs(hold_at(whole, (HALF, (5, 12)), chances), len(chances) == 1)
            self.assertIs(hold_at(whole, ((7, 12), (5, 11)), chances), True)
            self.assertIs(hold_at((2, ()), (), chances), len(chances) == 1)
            self.assertIs(hold_at((2, ((), ((0, 0),))), (ONE, ONE), chances), len(chances) == 1)
        self.assertIs(hold_at(((2, ((FIRST), SECOND))), (ONE, ONE), LEAN), True)

    def test_unfit_first(self):
        both = (2, (FIRST, SECOND))
        for sight, shares in ((both, (ONE,)), (both, ()), (both, (ONE, ONE, ONE)), ((2, ()), (ONE,)), (CRATE, (ONE, ONE))):
            for function in (left_over, hold_at):
                with self.assertRaises(Unfit):
                    agreed(self, function, sight, shares, LEAN)
            for thing in (LEAN, None) + ODD:
                with self.assertRaises(Unfit):
                    is_breaking(sight, shares, thing)

    def test_things(self):
        both = (2, (FIRST, SECOND))
        good = [LEAN, even_chances(((0, 0), (0, 1), (1, 0), (1, 1))), (((0, 0), (1, 10 ** 20)), ((1, 1), (10 ** 20 - 1, 10 ** 20)))]
        check_thing(self, is_breaking, both, ((1, 3), (1, 3)), good=good)
        check_thing(self, is_breaking, both, (ONE, ONE))
        self.assertIs(is_breaking(both, (HALF, HALF), (((0, 0), ONE),)), False)
        self.assertIs(is_breaking(both, (HALF, HALF), LEAN[::-1]), False)
        self.assertIs(is_breaking(both, (HALF, HALF), (((0,), HALF), ((1,), HALF))), False)

    def test_bounds(self):
        # 24 pairs, bottoms to 24, SHARES with bottoms to 12.
        some = Random(47)
        for sight in some_sights(48, 30, 99):
            if is_blind(sight) or not sight[1]:
                continue
            chances = some_chances(some, sight[0], 24, 24, 10 ** 6)
            shares = tuple(some.choice(FRACTIONS) for _ in sight[1])
            self.assertIs(is_breaking(sight, shares, chances), not hold_at(sight, shares, chances))
            self.assertEqual(common_kernel(sight, tuple(range(len(sight[1])))), ())
            if holds(sight, shares):
                self.assertIs(hold_at(sight, shares, chances), True)
        unlike = tuple(((k,), fraction(Fraction(1, 24))) for k in range(20)) + (((20,), (1, 23)), ((21,), fraction(Fraction(1, 6) - Fraction(1, 23))))
        self.assertIs(is_chances(unlike, 1), True)
        self.assertEqual(compared(width(unlike), ((22, ONE),)), -1)


if __name__ == "__main__":
    unittest.main()
