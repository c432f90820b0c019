"""Flags [15]."""

import unittest
from fractions import Fraction
from random import Random

from seenlots.errors import Unfit
from seenlots.flags import best_flag, best_worth, fits, flag_box, flag_heights, flag_rows, flag_worth, first_slope, is_best_flag
from seenlots.flags import is_flag, is_flag_rows, is_level, level_parts, slopes, uncrossed
from seenlots.holds import enough_times
from seenlots.lots import box_of, is_lot, shown_lot
from seenlots.region import is_kind_weights, kind_weights, least_sum
from seenlots.rows import filled, stepped
from seenlots.spaces import is_chain, is_space, meet, small_spaces, sum_space, taken, whole_space, within
from seenlots.views import beyond, inside
from tests.shares import BLIND, GREAT, HALF, NONE, ONE, ROOM, SPACES, THIRD, fraction, is_blind, kinds_of, sights, some_shares
from tests.shares import dims_of, value
from tests.sights import CRATE, SLANT
from tests.test_region import some_heights, total
from tests.tools import ODD, agreed, check_thing, deep, det

SIGHTS = sights(351, 12)
SEEING = [sight for sight in SIGHTS if not is_blind(sight)]
WHOLE, FLANK, EDGE = whole_space(3), ((0, 1, 0), (0, 0, 1)), ((0, 0, 1),)
FOUR = [filled(rows) for rows in (((1, 0, 2, 1),), ((1, 0, 2, 1), (0, 1, 1, 1)), ((0, 2, 0, 1),), ((1, 1, 1, 1), (0, 0, 1, -1), (0, 1, 0, 0)),
                                  ((0, 0, 3, 1), (1, 0, 0, 0)))] + [whole_space(4)]


def told_worth(pairs):
    return sum(value(weight) * len(space) for space, weight in pairs)


def told_heights(sight, pairs):
    return [sum(value(weight) * dims_of(sight, space)[1][number] for space, weight in pairs) for number in range(len(sight[1]))]


def told_flag(size, thing):
    spaces = [space for space, _ in thing]
    return () not in spaces and all(value(weight) > 0 for _, weight in thing) and is_chain(tuple(spaces), size)


def some_pairs(seed, size, many=20):
    """Pairs of SPACES and weights, in whatever order, SPACES twice, crossing."""
    some = Random(seed)
    spaces = {1: SPACES[1], 2: small_spaces(2, 1), 3: small_spaces(3, 1), 4: FOUR}[size]
    spaces = [space for space in spaces if space]
    found = [(), ((spaces[-1], ONE),), ((spaces[0], HALF), (spaces[0], THIRD))]
    for _ in range(many):
        count = some.choice((1, 2, 2, 3, 4))
        found.append(tuple((some.choice(spaces), some.choice((ONE, HALF, THIRD, (7, 5), (1000, 11)))) for _ in range(count)))
    return found


def told_uncrossed(pairs):
    """The FLAG, step by step as the document says."""
    weights = {}
    for space, weight in pairs:
        weights[space] = weights.get(space, Fraction(0)) + value(weight)
    while True:
        crossing = [(one, other) for one in sorted(weights) for other in sorted(weights)
                    if one < other and not within(one, other) and not within(other, one)]
        if not crossing:
            return tuple(sorted(((space, fraction(weight)) for space, weight in weights.items()), key=lambda pair: len(pair[0])))
        one, other = min(crossing)
        less = min(weights[one], weights[other])
        for space, more in ((one, -less), (other, -less), (sum_space(one, other), less), (meet(one, other), less)):
            weights[space] = weights.get(space, Fraction(0)) + more
        weights = {space: weight for space, weight in weights.items() if weight and space}


class Is(unittest.TestCase):
    def test_is_flag(self):
        for size in (1, 2, 3, 4):
            for pairs in some_pairs(352, size):
                self.assertIs(is_flag(size, pairs), told_flag(size, pairs))
        good = [(), ((EDGE, HALF), (FLANK, ONE)), ((EDGE, (7, 1)), (WHOLE, (1, 10 ** 30))), ((WHOLE, ONE),), ((((1, 10 ** 30, 0),), ONE),)]
        check_thing(self, lambda thing: is_flag(3, thing), good=good)
        agreed(self, is_flag, 3, good[1])
        for thing in (((FLANK, ONE), (EDGE, HALF)), ((EDGE, ONE), (EDGE, ONE)), (((), ONE),), ((EDGE, NONE),), ((EDGE, (-1, 2)),),
                      ((EDGE, (2, 4)),), ((((1, 0, 0),), ONE), (FLANK, ONE)), ((((0, 0, 2),), ONE),), ((((0, 0, -1),), ONE),), ((EDGE,),),
                      ((EDGE, ONE, ONE),), ((((0, 1),), ONE),), (EDGE, ONE), deep(tuple, 100), ((deep(tuple, 98), ONE),)):
            self.assertIs(is_flag(3, thing), False, thing)


class Told(unittest.TestCase):
    def test_worth_and_heights(self):
        for sight in SIGHTS:
            for pairs in some_pairs(353, sight[0], 6):
                self.assertEqual(flag_worth(pairs), fraction(told_worth(pairs)))
                least = flag_heights(sight, pairs)
                self.assertEqual([value(part) for part in least], told_heights(sight, pairs))
                self.assertIs(fits(sight, pairs, least), True)
                for number, height in enumerate(least):
                    more = least[:number] + (fraction(value(height) + 1),) + least[number + 1:]
                    self.assertIs(fits(sight, pairs, more), True)
                    if value(height) > 0:
                        less = least[:number] + (fraction(value(height) * Fraction(11, 12)),) + least[number + 1:]
                        self.assertIs(fits(sight, pairs, less), False)
        pairs = ((FLANK, HALF), (EDGE, ONE), (FLANK, THIRD))
        agreed(self, flag_worth, pairs)
        agreed(self, flag_heights, CRATE, pairs)
        agreed(self, fits, CRATE, pairs, (ONE, (2, 1), (3, 1)))
        self.assertEqual(agreed(self, flag_worth, ()), NONE)
        self.assertEqual(agreed(self, flag_heights, CRATE, ()), (NONE,) * 3)
        self.assertEqual(agreed(self, flag_heights, (3, ()), pairs), ())
        self.assertIs(agreed(self, fits, (3, ()), pairs, ()), True)


class Best(unittest.TestCase):
    def told_best(self, sight, heights, thing):
        return told_flag(sight[0], thing) and told_worth(thing) == value(least_sum(sight, heights)[0]) and all(
            part <= value(height) for part, height in zip(told_heights(sight, thing), heights))

    def test_best(self):
        for number, sight in enumerate(SEEING):
            for heights in some_heights(number + 20, sight, 3):
                # The greatest worth is the least sum of heights times SHARES that hold.
                least, shares = least_sum(sight, heights)
                self.assertEqual(total(heights, shares), value(least))
                self.assertEqual(best_worth(sight, heights), least)
                found = best_flag(sight, heights)
                self.assertTrue(self.told_best(sight, heights, found), (sight, heights, found))
                self.assertIs(is_best_flag(sight, heights, found), True)
                if found:
                    self.assertIs(is_best_flag(sight, heights, found[1:]), False)
                # A FLAG that fits shows the sum least, told by the kinds.
                table = {}
                for space, weight in found:
                    table[dims_of(sight, space)] = weight
                self.assertIs(is_kind_weights(sight, heights, tuple(sorted(table.items()))), True)
        for sight in (SLANT, CRATE, ROOM[3]):
            for heights in some_heights(354, sight, 1)[::2]:
                agreed(self, best_worth, sight, heights)
                agreed(self, is_best_flag, sight, heights, agreed(self, best_flag, sight, heights))

    def test_is_best_flag(self):
        for sight in (SLANT, CRATE, (1, (((2,),), ((0,),)))):
            for heights in some_heights(355, sight, 2):
                for pairs in some_pairs(356, sight[0], 12):
                    self.assertIs(is_best_flag(sight, heights, pairs), self.told_best(sight, heights, pairs))
        check_thing(self, is_best_flag, CRATE, (ONE, ONE, ONE), good=[((WHOLE, HALF),)])
        check_thing(self, is_best_flag, CRATE, (ONE, ONE, (5, 1)), good=[((FLANK, ONE),)])
        check_thing(self, is_best_flag, SLANT, (NONE,) * 3, good=[()])
        for thing in ((), ((WHOLE, ONE),), ((WHOLE, (1, 4)),), ((EDGE, HALF), (WHOLE, (1, 3))), deep(tuple, 100)):
            self.assertIs(is_best_flag(CRATE, (ONE, ONE, ONE), thing), False, thing)

    def test_unfit(self):
        for sight in BLIND:
            heights = (ONE,) * len(sight[1])
            for function in (best_worth, best_flag):
                with self.assertRaises(Unfit):
                    agreed(self, function, sight, heights)
            for thing in ODD + ((), ((whole_space(sight[0]), ONE),)):
                with self.assertRaises(Unfit):
                    is_best_flag(sight, heights, thing)


class Uncrossed(unittest.TestCase):
    def test_uncrossed(self):
        for size in (1, 2, 3, 4):
            for pairs in some_pairs(357, size, 40):
                flag = uncrossed(pairs)
                self.assertEqual(flag, told_uncrossed(pairs), pairs)
                self.assertIs(is_flag(size, flag), True)
                # The worth stays as it is.
                self.assertEqual(flag_worth(flag), flag_worth(pairs))
        for pairs in some_pairs(358, 3, 6):
            flag = agreed(self, uncrossed, pairs)
            self.assertEqual(uncrossed(flag), flag)
            self.assertEqual(uncrossed(pairs[::-1]), flag)

    def test_no_height_grows(self):
        for sight in SIGHTS:
            for pairs in some_pairs(359, sight[0], 8):
                after = told_heights(sight, uncrossed(pairs))
                self.assertTrue(all(less <= part for less, part in zip(after, told_heights(sight, pairs))))

    def test_pairs_that_cross(self):
        across, up = ((1, 0),), ((0, 1),)
        self.assertEqual(uncrossed(((across, HALF), (up, HALF))), ((whole_space(2), HALF),))
        self.assertEqual(uncrossed(((across, HALF), (across, HALF), (up, (2, 1)))), ((up, ONE), (whole_space(2), ONE)))
        first, then = ((1, 0, 0), (0, 1, 0)), ((1, 0, 0), (0, 0, 1))
        self.assertEqual(uncrossed(((first, ONE), (then, THIRD))), ((((1, 0, 0),), THIRD), (first, (2, 3)), (WHOLE, THIRD)))


class Rows(unittest.TestCase):
    def test_flag_rows(self):
        for size in (1, 2, 3, 4):
            for pairs in some_pairs(360, size, 30):
                flag = uncrossed(pairs)
                rows = flag_rows(flag)
                self.assertEqual(len(rows), len(flag[-1][0]) if flag else 0)
                for space, _ in flag:
                    self.assertEqual(stepped(rows[:len(space)]), space)
                self.assertIs(is_flag_rows(flag, rows), True)
                if rows:
                    self.assertIs(is_flag_rows(flag, rows[::-1]), all(stepped(rows[::-1][:len(space)]) == space for space, _ in flag))
                    self.assertIs(is_flag_rows(flag, rows[:-1]), False)
        agreed(self, is_flag_rows, ((EDGE, HALF), (WHOLE, ONE)), agreed(self, flag_rows, ((EDGE, HALF), (WHOLE, ONE))))
        self.assertEqual(agreed(self, flag_rows, ()), ())

    def test_is_flag_rows(self):
        check_thing(self, is_flag_rows, (), good=[()])
        check_thing(self, is_flag_rows, ((EDGE, HALF), (FLANK, ONE)), good=[((0, 0, -1), (0, 1, 7)), ((0, 0, 1), (0, -1, 10 ** 30))])
        for thing in (((0, 1, 0), (0, 0, 1)), ((0, 0, 2), (0, 1, 0)), ((0, 0, 1), (0, 2, 0)), ((0, 0, 1),), ((0, 0, 1), (0, 1, 0), (1, 0, 0)),
                      ((0, 0, 1), (1, 1, 0)), ((0, 1), (1, 0)), deep(tuple, 100)):
            self.assertIs(is_flag_rows(((EDGE, HALF), (FLANK, ONE)), thing), False, thing)

    def test_flag_box(self):
        for size in (1, 2, 3, 4):
            for pairs in some_pairs(361, size, 12):
                flag = uncrossed(pairs)
                for base in (1, 2, 10, 999, 10 ** 6):
                    rows, sides = flag_box(flag, base)
                    self.assertEqual(rows, flag_rows(flag))
                    self.assertEqual(len(sides), len(rows))
                    for place, side in enumerate(sides):
                        power = sum(value(weight) for space, weight in flag if len(space) > place)
                        top, bottom = fraction(power)
                        self.assertTrue(side ** bottom <= base ** top < (side + 1) ** bottom)
        agreed(self, flag_box, ((EDGE, HALF), (FLANK, ONE)), 10)
        self.assertEqual(agreed(self, flag_box, (), 10 ** 6), ((), ()))
        self.assertEqual(flag_box(((EDGE, (1000, 7)),), 1)[1], (1,))

    def test_boxes_are_great(self):
        # As many POINTS as base to the worth, but for whole parts; images at most some number times base to the height.
        for sight, heights in ((CRATE, (ONE, ONE, ONE)), (CRATE, (ONE, ONE, (5, 1))), (SLANT, (ONE, ONE, ONE)), (SLANT, (ONE, HALF, ONE))):
            flag = best_flag(sight, heights)
            for base in (4, 9, 16):
                rows, sides = flag_box(flag, base)
                lot = box_of(sight[0], rows, sides)
                self.assertTrue(is_lot(lot, sight[0]))
                top, bottom = flag_worth(flag)
                self.assertGreaterEqual((len(lot) * 4) ** bottom, base ** top)
                for view, height in zip(sight[1], heights):
                    self.assertLessEqual(len(shown_lot(view, lot)) ** height[1], 100 * base ** height[0])
            # Of its ROWS and some more a base can be made.
            self.assertIn(abs(det(rows)) if len(rows) == sight[0] else 1, (1,))


class Slopes(unittest.TestCase):
    def each(self):
        for number, sight in enumerate(SIGHTS):
            for shares in some_shares(number + 240, sight, 2)[::2]:
                yield sight, shares

    def told_slope(self, sight, shares, outer, inner):
        """The slope of one SPACE over another one."""
        more, less = dims_of(sight, outer), dims_of(sight, inner)
        shown = sum(value(share) * (part - before) for share, part, before in zip(shares, more[1], less[1]))
        return shown / (more[0] - less[0])

    def test_slopes(self):
        for sight, shares in self.each():
            found = slopes(sight, shares)
            ahead, before = (), None
            self.assertEqual(found[-1][0], whole_space(sight[0]))
            for space, slope in found:
                self.assertTrue(is_space(space, sight[0]) and within(ahead, space) and len(ahead) < len(space))
                least = self.told_slope(sight, shares, space, ahead)
                self.assertEqual(value(slope), least)
                # The slopes rise.
                self.assertTrue(before is None or before < least)
                for other in SPACES[sight[0]]:
                    if len(other) > len(ahead) and within(ahead, other):
                        part = self.told_slope(sight, shares, other, ahead)
                        self.assertTrue(part > least or part == least and within(other, space), (sight, shares, other))
                ahead, before = space, least
        for sight, shares in list(self.each())[::12]:
            agreed(self, slopes, sight, shares)
        self.assertEqual(slopes((3, ()), ()), ((WHOLE, NONE),))
        self.assertEqual(slopes(CRATE, (NONE,) * 3), ((WHOLE, NONE),))
        self.assertEqual(slopes((1, (((5,),),)), (HALF,)), ((((1,),), HALF),))

    def test_is_level(self):
        for sight, shares in self.each():
            lines = [sum(value(share) * part for share, part in zip(shares, row)) / dim for dim, row in kinds_of(sight) if dim]
            whole = self.told_slope(sight, shares, whole_space(sight[0]), ())
            self.assertIs(is_level(sight, shares), min(lines) == whole)
            self.assertIs(is_level(sight, shares), len(slopes(sight, shares)) == 1)
        agreed(self, is_level, CRATE, (HALF, HALF, HALF))
        agreed(self, is_level, CRATE, (ONE, (1, 4), (1, 4)))
        self.assertIs(is_level((1, ()), ()), True)

    def test_first_slope_tells_enough_times(self):
        for sight, shares in self.each():
            _, slope = slopes(sight, shares)[0]
            if value(slope) > 0:
                self.assertEqual(value(enough_times(sight, shares)), 1 / value(slope))
            self.assertEqual(first_slope(sight, shares), slopes(sight, shares)[0])

    def test_level_parts(self):
        for sight, shares in self.each():
            found = level_parts(sight, shares)
            chain = slopes(sight, shares)
            self.assertEqual(len(found), len(chain))
            ahead = ()
            for part, (space, slope) in zip(found, chain):
                within_it = inside(sight, space)
                if ahead:
                    within_it = beyond(within_it, stepped([taken(space, row) for row in ahead]))
                self.assertEqual(part, within_it)
                self.assertEqual(part[0], len(space) - len(ahead))
                self.assertIs(is_level(part, shares), True)
                self.assertEqual(slopes(part, shares), ((whole_space(part[0]), slope),))
                ahead = space
        for sight, shares in list(self.each())[::12]:
            agreed(self, level_parts, sight, shares)


class Many(unittest.TestCase):
    def test_many_end_soon(self):
        some = Random(362)
        for sight in [sight for sight in GREAT if not is_blind(sight)] + ROOM * 5:
            for _ in range(4):
                heights = tuple(some.choice(((0, 1), ONE, (1000, 7), (999, 11), (1, 12))) for _ in sight[1])
                flag = best_flag(sight, heights)
                self.assertIs(is_best_flag(sight, heights, flag), True)
                self.assertEqual(len(flag_box(flag, 10 ** 6)[1]), len(flag_rows(flag)))
                self.assertEqual(len(kind_weights(sight, heights)) > 0, len(flag) > 0)
                shares = tuple(some.choice((NONE, HALF, THIRD, ONE)) for _ in sight[1])
                self.assertEqual(len(level_parts(sight, shares)), len(slopes(sight, shares)))


if __name__ == "__main__":
    unittest.main()
