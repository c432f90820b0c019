"""Breaks [12]."""

import unittest
from fractions import Fraction
from itertools import product
from math import lcm, prod
from random import Random

from seenlots.breaks import box_lot, box_powers, break_of, broken_shares, first_break, is_break, least_side, lot_breaks, rooms
from seenlots.breaks import surely_breaks
from seenlots.errors import NoPaper, TooMany
from seenlots.holds import excess, holds, least_space
from seenlots.lots import box, is_lot, keeps, shown_lot
from seenlots.rows import filled
from seenlots.spaces import is_space, taken, whole_space
from tests.shares import BLIND, FRACTIONS, GREAT, HALF, NONE, ONE, ROOM, SPACES, power, product_order, sights
from tests.shares import some_shares, told_excess, told_holds, value
from tests.sights import CRATE, SLANT
from tests.test_lots import some_lots
from tests.test_views import seen, told_dims
from tests.tools import ODD, agreed, check_thing, deep, rank, times_rows

SIGHTS = sights(321, 12)
PANE = (2, (((1, 0),), ((3, 2),)))


def each(step=1):
    for number, sight in list(enumerate(SIGHTS))[::step]:
        for shares in some_shares(number + 90, sight, 2):
            yield sight, shares


def told_room(view, rows, sides):
    """The room, by the document's words."""
    shown = [seen(view, row) for row in rows]
    if rank(shown) == 0:
        return 1
    base = filled(shown)
    room = 1
    for place in range(len(base)):
        room *= 1 + sum((side - 1) * abs(taken(base, point)[place]) for point, side in zip(shown, sides, strict=True))
    return room


def told_enough(sight, shares, space, side, times=1):
    """Whether side to the power dim is above times times the product of the rooms to the shares, by whole numbers."""
    sides = (side,) * len(space)
    many = lcm(*[bottom for _, bottom in shares])
    least = prod(power(told_room(view, space, sides), share, many) for view, share in zip(sight[1], shares))
    return side ** (len(space) * many) > times ** many * least


def independent_rows(some, size, most=3):
    while True:
        rows = tuple(tuple(some.randint(-most, most) for _ in range(size)) for _ in range(some.randint(1, size)))
        if rank(rows) == len(rows):
            return rows


def is_small(shares):
    return lcm(*[bottom for _, bottom in shares]) <= 24


class Boxes(unittest.TestCase):
    def test_box_lot(self):
        some = Random(322)
        for size in (1, 2, 3, 4):
            for _ in range(20):
                rows = independent_rows(some, size)
                sides = tuple(some.choice((1, 1, 2, 3, 5)) for _ in rows)
                lot = agreed(self, box_lot, rows, sides)
                expected = {times_rows(times, rows, size) for times in product(*[range(side) for side in sides])}
                self.assertEqual(lot, tuple(sorted(expected)))
                # As many POINTS as the sides multiplied.
                self.assertEqual(len(lot), prod(sides))
        self.assertEqual(box_lot(((5, 7),), (1,)), ((0, 0),))
        self.assertEqual(len(box_lot(whole_space(2), (64, 64))), 4096)
        self.assertEqual(len(box_lot(((3,),), (4096,))), 4096)

    def test_too_many(self):
        for rows, sides in ((((1,),), (4097,)), (((1, 0), (0, 1)), (64, 65)), (whole_space(3), (17, 17, 17)), (((1, 2),), (10 ** 6,)),
                            (((1, 0), (1, 1)), (1, 10 ** 6))):
            with self.assertRaises(TooMany):
                agreed(self, box_lot, rows, sides)

    def test_rooms(self):
        some = Random(323)
        for sight in SIGHTS:
            for _ in range(3):
                rows = independent_rows(some, sight[0], some.choice((1, 3)))
                sides = tuple(some.choice((1, 2, 3, 4)) for _ in rows)
                told = rooms(sight, rows, sides)
                self.assertEqual(told, tuple(told_room(view, rows, sides) for view in sight[1]))
                # The image of the box has at most so many POINTS.
                lot = box_lot(rows, sides)
                self.assertTrue(all(len(shown_lot(view, lot)) <= room for view, room in zip(sight[1], told)))
                great = tuple(some.choice((1, 10 ** 6)) for _ in rows)
                self.assertEqual(rooms(sight, rows, great), tuple(told_room(view, rows, great) for view in sight[1]))
        agreed(self, rooms, CRATE, ((1, 2, 0), (0, 1, -1)), (3, 4))
        self.assertEqual(agreed(self, rooms, (2, ((), ((0, 0),), ((2, 4),))), ((1, 0),), (5,)), (1, 1, 9))
        self.assertEqual(rooms((2, (((2, 4), (1, 3)),)), ((1, 0), (0, 1)), (1, 1)), (1,))
        self.assertEqual(agreed(self, rooms, (2, ()), ((1, 0),), (5,)), ())

    def test_lot_breaks(self):
        for sight, shares in each(3):
            for lot in some_lots(324, sight[0], 2):
                many = lcm(*[bottom for _, bottom in shares])
                least = prod(power(len({seen(view, point) for point in lot}), share, many) for view, share in zip(sight[1], shares))
                self.assertIs(lot_breaks(sight, shares, lot), len(lot) ** many > least)
        self.assertIs(agreed(self, lot_breaks, PANE, (ONE, HALF), ((0, 0), (0, 1))), True)
        self.assertIs(agreed(self, lot_breaks, PANE, (ONE, HALF), ((0, 0), (1, 0))), False)
        self.assertIs(lot_breaks((1, ()), (), ((4,),)), False)
        self.assertIs(lot_breaks((1, ()), (), ((4,), (5,))), True)

    def test_box_powers(self):
        some = Random(325)
        for sight, shares in each():
            rows = independent_rows(some, sight[0])
            sides = tuple(some.choice((1, 2, 7, 1000)) for _ in rows)
            first, second = box_powers(sight, shares, rows, sides)
            self.assertEqual(first, tuple((side, ONE) for side in sides))
            self.assertEqual(second, tuple((told_room(view, rows, sides), share) for view, share in zip(sight[1], shares)))
            self.assertIs(surely_breaks(sight, shares, rows, sides), product_order(first, second) > 0)
            if prod(sides) <= 60 and surely_breaks(sight, shares, rows, sides):
                self.assertIs(lot_breaks(sight, shares, box_lot(rows, sides)), True)
        agreed(self, box_powers, PANE, (ONE, HALF), ((0, 1), (1, 1)), (2, 3))
        agreed(self, surely_breaks, PANE, (ONE, HALF), ((0, 1), (1, 1)), (2, 3))
        self.assertEqual(box_powers((1, ()), (), ((2,),), (3,)), (((3, ONE),), ()))
        self.assertIs(surely_breaks((1, ()), (), ((2,),), (1,)), False)


class Break(unittest.TestCase):
    def test_is_break(self):
        some = Random(326)
        for sight, shares in each(2):
            for space in some.sample(SPACES[sight[0]], min(4, len(SPACES[sight[0]]))):
                for side in (1, 2, 3, 50, 10 ** 6):
                    expected = told_enough(sight, shares, space, side)
                    self.assertIs(is_break(sight, shares, (space, side)), expected, (sight, shares, space, side))
                    if expected:
                        # With greater sides it is one, too; its excess is above 0; its box breaks the SHARES.
                        self.assertIs(is_break(sight, shares, (space, side + 1)), True)
                        self.assertGreater(told_excess(shares, told_dims(sight, space)), 0)
                        if side ** len(space) <= 60:
                            self.assertIs(keeps(sight, shares, box(sight[0], space, side)), False)
        for sight, shares in list(each(4))[::5]:
            agreed(self, is_break, sight, shares, (whole_space(sight[0]), 2))

    def test_things(self):
        shares = (ONE, HALF)
        good = [(((0, 1),), 2), (((0, 1),), 10 ** 30), (((0, 1),), 10 ** 6 + 1)]
        self.assertIs(told_enough(PANE, shares, whole_space(2), 1000), True)
        check_thing(self, is_break, PANE, shares, good=good + [(whole_space(2), 1000)])
        wrong = [(((0, 1),), 1), (((0, 1),), 0), (((0, 1),), -2), (((0, 1),), True), (((0, 1),), "2"), (((0, 1),), (2,)), (((0, 2),), 2),
                 (((0, -1),), 2), (((1, 0),), 9), ((), 2), ((), 1), (((0, 1),),), (((0, 1),), 2, 2), (((0, 1, 0),), 2), ([(0, 1)], 2),
                 [((0, 1),), 2], (2, ((0, 1),)), deep(tuple, 100), (deep(tuple, 99), 2), (((0, 1),), deep(tuple, 99))]
        for thing in wrong:
            self.assertIs(is_break(PANE, shares, thing), False, thing)
        for thing in ODD:
            self.assertIs(is_break(PANE, (ONE, ONE), thing), False)
        check_thing(self, is_break, (1, ()), (), good=[(((1,),), 2)])

    def test_break_of(self):
        for sight, shares in each():
            found = break_of(sight, shares)
            self.assertIs(found is None, told_holds(sight, shares), (sight, shares))
            if found is not None:
                space, side = found
                self.assertTrue(is_space(space, sight[0]))
                self.assertIs(is_break(sight, shares, found), True)
                self.assertEqual(break_of(sight, shares), found)
                if side < 10 ** 9 and is_small(shares):
                    self.assertTrue(told_enough(sight, shares, space, side))
        for sight, shares in list(each(3))[::4]:
            agreed(self, break_of, sight, shares)

    def test_broken_shares(self):
        some = Random(327)
        for sight in SIGHTS[::2]:
            several = tuple(some_shares(328, sight, 2))
            for space in some.sample(SPACES[sight[0]], min(3, len(SPACES[sight[0]]))):
                for side in (1, 2, 1000):
                    expected = tuple(k for k, shares in enumerate(several) if told_enough(sight, shares, space, side))
                    self.assertEqual(broken_shares(sight, space, side, several), expected)
        agreed(self, broken_shares, PANE, ((0, 1),), 2, ((ONE, HALF), (ONE, ONE), (ONE, NONE)))
        self.assertEqual(agreed(self, broken_shares, PANE, ((0, 1),), 2, ()), ())
        self.assertEqual(agreed(self, broken_shares, PANE, (), 9, ((NONE, NONE),)), ())


class Sides(unittest.TestCase):
    def test_least_side(self):
        some = Random(329)
        count = 0
        for sight, shares in each():
            if not is_small(shares):
                continue
            for space in some.sample(SPACES[sight[0]], min(3, len(SPACES[sight[0]]))) + [least_space(sight, shares)]:
                if told_excess(shares, told_dims(sight, space)) <= 0:
                    with self.assertRaises(NoPaper):
                        least_side(sight, shares, space, 1)
                    continue
                for times in (1, 2, 10 ** 6):
                    side = least_side(sight, shares, space, times)
                    self.assertTrue(told_enough(sight, shares, space, side, times))
                    self.assertFalse(side > 1 and told_enough(sight, shares, space, side - 1, times))
                    count += 1
        self.assertGreater(count, 300)
        self.assertEqual(agreed(self, least_side, PANE, (ONE, (11, 12)), ((0, 1),), 1), 2043)
        self.assertEqual(agreed(self, least_side, (1, ()), (), ((1,),), 10 ** 6), 10 ** 6 + 1)
        for sight, shares, space in ((PANE, (ONE, ONE), ((0, 1),)), (PANE, (NONE, NONE), ()), (SLANT, (HALF, HALF, ONE), ((1, -1),))):
            with self.assertRaises(NoPaper):
                agreed(self, least_side, sight, shares, space, 1)

    def test_great_sides(self):
        # The least excess that is promised, great steps, the greatest times.
        sight = (2, (((97, 89),), ((99, -98),), ((-95, 91),)))
        for shares in (((2, 3), (5, 8), (2, 3)), ((23, 24), HALF, HALF), ((5, 8), (2, 3), (2, 3))):
            for space in (whole_space(2),):
                top = value(excess(sight, shares, space))
                self.assertEqual(top, Fraction(1, 24))
                for times in (1, 7, 10 ** 6):
                    side = least_side(sight, shares, space, times)
                    self.assertTrue(told_enough(sight, shares, space, side, times))
                    self.assertFalse(told_enough(sight, shares, space, side - 1, times))

    def test_first_break(self):
        for sight, shares in each():
            if not is_small(shares):
                continue
            found = first_break(sight, shares)
            self.assertIs(found is None, told_holds(sight, shares))
            if found is not None:
                self.assertEqual(found, (least_space(sight, shares), least_side(sight, shares, found[0], 1)))
                self.assertIs(is_break(sight, shares, found), True)
                self.assertIs(is_break(sight, shares, (found[0], found[1] - 1)), False)
        agreed(self, first_break, PANE, (ONE, (11, 12)))
        agreed(self, first_break, PANE, (ONE, ONE))

    def test_no_number_helps(self):
        # An excess above 0: for each number a side by which the box has more than so many times what is bounded.
        shares = (HALF, HALF, HALF)
        for times in (1, 10, 1000, 10 ** 6):
            side = least_side(SLANT, shares, whole_space(2), times)
            self.assertTrue(side ** 4 > times ** 2 * side * side * (2 * side - 1))


class Many(unittest.TestCase):
    def test_many_end_soon(self):
        some = Random(330)
        small = [share for share in FRACTIONS if share[1] in (1, 2, 3, 4, 6, 8, 12)]
        for sight in GREAT + ROOM * 5:
            for _ in range(4):
                shares = tuple(some.choice(small) for _ in sight[1])
                found = first_break(sight, shares)
                self.assertIs(found is None, holds(sight, shares))
                if found is not None:
                    self.assertIs(is_break(sight, shares, found), True)
                    self.assertIs(is_break(sight, shares, break_of(sight, shares)), True)
        for sight in BLIND:
            shares = (ONE,) * len(sight[1])
            space, side = first_break(sight, shares)
            self.assertEqual(side, 2)
            lot = box_lot(space, (side,) * len(space))
            self.assertTrue(is_lot(lot, sight[0]) and lot_breaks(sight, shares, lot))


if __name__ == "__main__":
    unittest.main()
