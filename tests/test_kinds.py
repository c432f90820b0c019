"""Kinds of spaces [9]."""

import unittest
from itertools import combinations
from random import Random

from seenlots.errors import NoPaper, NoView, Unfit
from seenlots.kinds import all_kinds, free_kind, hard_kinds, hidden_lots, hidden_point, is_hidden_point, is_kind
from seenlots.kinds import is_space_of_kind, kinds_of_dim, space_of_kind
from seenlots.spaces import is_space, small_spaces, whole_space
from seenlots.views import beyond, dims, inside
from tests.sights import CRATE, EDGES, SLANT, small_sights, some_sights
from tests.test_views import plus, seen, told_dims
from tests.tools import ODD, agreed, check_thing, deep, points, rank

SPACES = {size: small_spaces(size, 2) for size in (1, 2, 3)}
SIGHTS = small_sights(21, 40)
GREAT = some_sights(22, 20, 99)


def sets(many):
    return [some for count in range(many + 1) for some in combinations(range(many), count)]


def hides(sight, point):
    """The VIEWS that show 0s alone of a POINT."""
    return tuple(number for number, view in enumerate(sight[1]) if not any(seen(view, point)))


class Kinds(unittest.TestCase):
    def test_against_all_small_spaces(self):
        for sight in SIGHTS + GREAT:
            kinds = agreed(self, all_kinds, sight)
            self.assertEqual(list(kinds), sorted(set(kinds)))
            # Each kind told is there: a SPACE has it.
            for kind in kinds:
                space = space_of_kind(sight, kind)
                self.assertTrue(is_space(space, sight[0]))
                self.assertEqual(told_dims(sight, space), kind)
            # Each kind that is there is told.
            self.assertLessEqual({dims(sight, space) for space in SPACES[sight[0]]}, set(kinds), sight)

    def test_just_those_of_small_spaces(self):
        # For VIEWS of these small numbers the small SPACES have all kinds.
        for sight in [SLANT, CRATE] + list(EDGES[:9]) + some_sights(23, 60, 1, views=2):
            self.assertEqual(set(all_kinds(sight)), {told_dims(sight, space) for space in SPACES[sight[0]]}, sight)

    def test_kinds_of_dim(self):
        for sight in SIGHTS[::4]:
            kinds = all_kinds(sight)
            for dim in range(6):
                self.assertEqual(agreed(self, kinds_of_dim, sight, dim), tuple(kind for kind in kinds if kind[0] == dim))
        self.assertEqual(kinds_of_dim(CRATE, 4), ())
        self.assertEqual(kinds_of_dim(CRATE, 10 ** 9), ())
        self.assertEqual(kinds_of_dim(SLANT, 0), ((0, (0, 0, 0)),))

    def test_hard_kinds(self):
        for sight in SIGHTS + GREAT[:8]:
            kinds = all_kinds(sight)
            expected = []
            for dim, row in kinds:
                others = [other for count, other in kinds if count == dim and other != row]
                if dim and not any(all(less <= part for less, part in zip(other, row)) for other in others):
                    expected.append((dim, row))
            self.assertEqual(agreed(self, hard_kinds, sight), tuple(expected), sight)

    def test_is_kind(self):
        for sight in (SLANT, (2, ()), (1, (((0,),),)), CRATE):
            check_thing(self, is_kind, sight, good=all_kinds(sight))
        for thing in ((0,), (0, (0, 0, 0), ()), (1, (1, 1)), (1, (1, 1, 1, 1)), (1, (0, 0, 1)), (3, (1, 1, 1)), (-1, (0, 0, 0)),
                      (2, (2, 1, 1)), (1, (-1, 1, 1)), (True, (1, 1, 1)), (1, (True, 1, 1)), (1, [1, 1, 1]), deep(tuple, 100)):
            self.assertIs(is_kind(SLANT, thing), False, thing)

    def test_space_of_kind(self):
        for sight in SIGHTS[::3]:
            kinds = all_kinds(sight)
            for kind in kinds:
                space = agreed(self, space_of_kind, sight, kind)
                self.assertEqual(told_dims(sight, space), kind)
                self.assertIs(agreed(self, is_space_of_kind, sight, kind, space), True)
            some = Random(24)
            for _ in range(6):
                kind = (some.randint(0, 4), tuple(some.randint(0, 3) for _ in sight[1]))
                if kind not in kinds:
                    with self.assertRaises(NoPaper):
                        agreed(self, space_of_kind, sight, kind)

    def test_is_space_of_kind(self):
        for sight in [SLANT, CRATE] + SIGHTS[5:60:9]:
            for kind in all_kinds(sight)[::2]:
                for space in SPACES[sight[0]][::3]:
                    self.assertIs(is_space_of_kind(sight, kind, space), told_dims(sight, space) == kind)
        good = [((1, 2),), ((2, 1),), ((10 ** 30, 1),), ((1, 1),)]
        check_thing(self, is_space_of_kind, SLANT, (1, (1, 1, 1)), good=good)
        check_thing(self, is_space_of_kind, SLANT, (0, (0, 0, 0)), good=[()])
        for thing in (((2, 2),), ((-1, -1),), ((1, 0),), ((1, 1), (0, 0)), ((1, 1, 0),), ((1,),), whole_space(2), deep(tuple, 100)):
            self.assertIs(is_space_of_kind(SLANT, (1, (1, 1, 1)), thing), False, thing)
        for thing in ODD:
            self.assertIs(is_space_of_kind(SLANT, (1, (0, 0, 1)), thing), False)

    def test_free_kind(self):
        for sight in SIGHTS + GREAT:
            kinds = all_kinds(sight)
            for dim in range(sight[0] + 1):
                best = agreed(self, free_kind, sight, dim)
                self.assertIn(best, kinds)
                self.assertTrue(all(part <= most for count, row in kinds if count == dim for part, most in zip(row, best[1])))
            for dim in (sight[0] + 1, sight[0] + 7):
                with self.assertRaises(Unfit):
                    agreed(self, free_kind, sight, dim)

    def test_kinds_inside_and_beyond(self):
        for sight in SIGHTS[:40:2]:
            kinds = all_kinds(sight)
            for space in SPACES[sight[0]][::7]:
                if space:
                    self.assertLessEqual(set(all_kinds(inside(sight, space))), set(kinds))
                if len(space) < sight[0]:
                    ahead = dims(sight, space)
                    self.assertLessEqual({plus(ahead, kind) for kind in all_kinds(beyond(sight, space))}, set(kinds))

    def test_edges(self):
        self.assertEqual(all_kinds((1, ())), ((0, ()), (1, ())))
        self.assertEqual(all_kinds((3, ())), ((0, ()), (1, ()), (2, ()), (3, ())))
        self.assertEqual(hard_kinds((3, ())), ((1, ()), (2, ()), (3, ())))
        self.assertEqual(all_kinds((2, ((),))), ((0, (0,)), (1, (0,)), (2, (0,))))
        self.assertEqual(all_kinds((2, (((0, 0),), ((1, 0), (1, 0))))), ((0, (0, 0)), (1, (0, 0)), (1, (0, 1)), (2, (0, 1))))
        self.assertEqual(free_kind((1, ()), 0), (0, ()))
        self.assertEqual(all_kinds((3, (whole_space(3),))), ((0, (0,)), (1, (1,)), (2, (2,)), (3, (3,))))

    def test_four_lines_in_one_plane(self):
        # All kernels are lines of one plane: a plane has none, one or all of them.
        views = tuple(((1, 0, 0), row) for row in ((0, 0, 1), (0, 1, 0), (0, 1, -1), (0, 1, 1)))
        kinds = kinds_of_dim((3, views), 2)
        self.assertEqual(kinds, ((2, (1, 1, 1, 1)), (2, (1, 2, 2, 2)), (2, (2, 1, 2, 2)), (2, (2, 2, 1, 2)), (2, (2, 2, 2, 1)),
                                 (2, (2, 2, 2, 2))))

    def test_more_views_than_bounded(self):
        for sight in some_sights(25, 12, 2, views=6):
            kinds = set(all_kinds(sight))
            self.assertLessEqual({dims(sight, space) for space in SPACES[sight[0]]}, kinds)
            self.assertTrue(all(told_dims(sight, space_of_kind(sight, kind)) == kind for kind in kinds))


class Hidden(unittest.TestCase):
    def test_against_all_small_points(self):
        for sight in SIGHTS + GREAT:
            found = agreed(self, hidden_lots, sight)
            self.assertEqual(list(found), sorted(set(found)))
            for numbers in found:
                point = hidden_point(sight, numbers)
                self.assertEqual(len(point), sight[0])
                self.assertTrue(any(point))
                self.assertEqual(hides(sight, point), numbers)
            small = {hides(sight, point) for point in points(sight[0], 3) if any(point)}
            self.assertLessEqual(small, set(found), sight)

    def test_by_ranks(self):
        for sight in SIGHTS + GREAT:
            size, views = sight
            expected = []
            for numbers in sets(len(views)):
                rows = [row for number in numbers for row in views[number]]
                others = [view for number, view in enumerate(views) if number not in numbers]
                # No other VIEW's ROWS all come of these, and these leave some POINT.
                if rank(rows) < size and all(rank(rows + list(view)) > rank(rows) for view in others):
                    expected.append(numbers)
            self.assertEqual(list(hidden_lots(sight)), sorted(expected), sight)

    def test_planes_in_the_way(self):
        # Planes through the POINTS (1, t, t * t) of two small t each, and through others that lie close by.
        planes = [(first * then, -first - then, 1) for first, then in combinations(range(5), 2)]
        planes += [(1, -2, 1), (0, 1, -1), (1, -1, 0), (2, -3, 1), (0, 0, 1), (0, 1, 0), (1, 0, 0)]
        for chosen in [planes[k:k + 4] for k in range(len(planes))] + [planes, [(1, -2, 1)]]:
            sight = (3, tuple((row,) for row in chosen[:6]))
            self.assertIn((), hidden_lots(sight))
            self.assertEqual(hides(sight, hidden_point(sight, ())), ())
            for kind in all_kinds(sight):
                self.assertEqual(told_dims(sight, space_of_kind(sight, kind)), kind)

    def test_hidden_point(self):
        for sight in SIGHTS[::3]:
            there = hidden_lots(sight)
            for numbers in sets(len(sight[1])):
                if numbers in there:
                    point = agreed(self, hidden_point, sight, numbers)
                    self.assertEqual(hides(sight, point), numbers)
                    self.assertIs(agreed(self, is_hidden_point, sight, numbers, point), True)
                else:
                    with self.assertRaises(NoPaper):
                        agreed(self, hidden_point, sight, numbers)

    def test_is_hidden_point(self):
        for sight in [SLANT, CRATE] + list(EDGES):
            for numbers in sets(len(sight[1])):
                for point in points(sight[0], 2):
                    self.assertIs(is_hidden_point(sight, numbers, point), any(point) and hides(sight, point) == numbers)
        check_thing(self, is_hidden_point, SLANT, (2,), good=[(-3, 3), (1, -1), (10 ** 30, -10 ** 30)])
        check_thing(self, is_hidden_point, SLANT, (), good=[(1, 1), (0 - 5, 1)])
        check_thing(self, is_hidden_point, (1, ()), (), good=[(1,), (-1,)])
        for thing in ((0, 0), (1,), (1, -1, 0), "", None, deep(tuple, 100), ((1, -1),), [1, -1], (True, -1)):
            self.assertIs(is_hidden_point(SLANT, (2,), thing), False, thing)

    def test_no_view(self):
        for numbers, first in (((1, 3), 3), ((3, 4), 3), ((-1, 5), -1), ((0, 1, 2, 9), 9)):
            with self.assertRaises(NoView) as caught:
                agreed(self, hidden_point, SLANT, numbers)
            self.assertEqual(caught.exception.number, first)
            for thing in ODD + ((1, 1),):
                with self.assertRaises(NoView) as caught:
                    is_hidden_point(SLANT, numbers, thing)
                self.assertEqual(caught.exception.number, first)
        with self.assertRaises(NoView):
            hidden_point((2, ()), (0,))
        # NoView comes ahead of NoPaper: no POINT is hidden by 0 and 1 of these.
        with self.assertRaises(NoPaper):
            hidden_point(SLANT, (0, 1))
        with self.assertRaises(NoView):
            hidden_point(SLANT, (0, 1, 3))


if __name__ == "__main__":
    unittest.main()
