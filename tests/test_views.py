"""Views and sights [7]."""

import unittest
from itertools import product
from random import Random

from seenlots.errors import NoView, Unfit
from seenlots.rows import filled
from seenlots.spaces import is_in, is_space, meet, small_spaces, sum_space, taken, whole_space, within, zeros_of
from seenlots.views import alike, based, beside, beyond, common_kernel, dims, finer, from_beyond, from_inside, inside
from seenlots.views import is_sight, is_view, joined_view, kernel, only_views, shown, with_view
from tests.sights import BOXES, CRATE, EDGES, SLANT, small_sights, some_sights
from tests.tools import agreed, check_thing, deep, det, dot, points, rank, spans, times_rows

PLANE, ROOM = small_spaces(2, 1), small_spaces(3, 1)
LINE = small_spaces(1, 1)
GREATEST = some_sights(90, 12, 99, (4,), 6)


def spaces_of(size, step=1):
    """SPACES of a size, with () and all."""
    several = {1: LINE, 2: PLANE, 3: ROOM}.get(size)
    if several is None:
        some = Random(size)
        several = [(), whole_space(size)] + [
            filled([tuple(some.randint(-2, 2) for _ in range(size)) for _ in range(some.randint(1, size))]) for _ in range(12)]
    return sorted(set(several[::step] + [(), whole_space(size)]))


def told_dims(sight, space):
    """The DIMENSIONS, by ranks."""
    _, views = sight
    return (len(space), tuple(rank([[dot(row, point) for row in view] for point in space]) if view else 0 for view in views))


def seen(view, point):
    return tuple(dot(row, point) for row in view)


def plus(one, other):
    """Two DIMENSIONS, place by place."""
    return one[0] + other[0], tuple(part + more for part, more in zip(one[1], other[1], strict=True))


class Is(unittest.TestCase):
    def test_is_view(self):
        good = [(), ((1, 0),), ((0, 0), (0, 0), (5, -7)), ((10 ** 30, 1),) * 9]
        check_thing(self, lambda thing: is_view(thing, 2), good=good)
        for thing in (((1,),), ((1, 0, 0),), ((1, 0), (1,)), (1, 0), ((),), ((True, 0),), deep(tuple, 100)):
            self.assertIs(is_view(thing, 2), False, thing)
        self.assertIs(agreed(self, is_view, ((1, 2, 3),), 3), True)

    def test_is_sight(self):
        good = list(EDGES) + [SLANT, BOXES, CRATE, (7, (((0,) * 7,),) * 9), (10 ** 9, ())] + GREATEST[:2]
        check_thing(self, is_sight, good=good)
        for thing in ((0, ()), (-1, ()), (True, ()), (2,), (2, (), ()), ((), 2), (2, ((1, 0),)), (2, (((1,),),)), (1, (((1, 0),),)),
                      (2, (((1, 0),), None)), (2, [((1, 0),)]), [2, ()], "2", (2, ""), (2, (((1, 0),), ((1, 0), (1, True))))):
            self.assertIs(is_sight(thing), False, thing)


class Shown(unittest.TestCase):
    def test_shown(self):
        for sight in small_sights(1, 30) + GREATEST:
            size, views = sight
            for number, view in enumerate(views):
                for point in points(min(size, 3), 1)[::4]:
                    point = point + (7,) * (size - len(point))
                    self.assertEqual(shown(sight, number, point), seen(view, point))
        self.assertEqual(agreed(self, shown, BOXES, 0, (4, 5, 6)), (5, 6))
        self.assertEqual(agreed(self, shown, (2, ((),)), 0, (4, 5)), ())

    def test_kernels(self):
        for sight in small_sights(2, 40) + GREATEST:
            size, views = sight
            for number, view in enumerate(views):
                space = agreed(self, kernel, sight, number)
                self.assertTrue(is_space(space, size))
                self.assertEqual(len(space), size - rank(view))
                self.assertTrue(all(not any(seen(view, point)) for point in space))
            for numbers in ((), tuple(range(len(views))), tuple(range(len(views)))[::2], tuple(range(len(views)))[1:]):
                space = agreed(self, common_kernel, sight, numbers)
                rows = [row for number in numbers for row in views[number]]
                self.assertEqual(len(space), size - rank(rows))
                self.assertTrue(all(within(space, kernel(sight, number)) for number in numbers))
                self.assertTrue(is_space(space, size))
                self.assertEqual(agreed(self, joined_view, sight, numbers), tuple(rows))
                self.assertEqual(agreed(self, only_views, sight, numbers), (size, tuple(views[number] for number in numbers)))
        self.assertEqual(common_kernel(SLANT, ()), ((1, 0), (0, 1)))
        self.assertEqual(common_kernel(SLANT, (0, 1)), ())
        self.assertEqual(joined_view(SLANT, ()), ())

    def test_no_view(self):
        none = (2, ())
        calls = [
            (shown, (SLANT, 3, (0, 0)), 3), (shown, (SLANT, -1, (0, 0)), -1), (shown, (none, 0, (1, 1)), 0),
            (kernel, (SLANT, 4), 4), (kernel, (SLANT, -3), -3), (kernel, (none, 0), 0), (kernel, (SLANT, 10 ** 30), 10 ** 30),
            (common_kernel, (SLANT, (-2, 0, 5)), -2), (common_kernel, (SLANT, (0, 2, 3, 4)), 3), (common_kernel, (none, (0,)), 0),
            (only_views, (SLANT, (1, 7, 9)), 7), (only_views, (SLANT, (-1, 7)), -1), (joined_view, (SLANT, (0, 3)), 3),
            (joined_view, (SLANT, (-5, 3)), -5), (finer, (SLANT, 3, 4), 3), (finer, (SLANT, 0, 4), 4), (finer, (SLANT, -1, 9), -1),
            (finer, (SLANT, 5, 0), 5), (finer, (none, 0, 1), 0),
        ]
        for function, args, number in calls:
            with self.assertRaises(NoView) as caught:
                agreed(self, function, *args)
            self.assertEqual(caught.exception.number, number, (function.__name__, args))

    def test_dims(self):
        for sight in small_sights(3, 30) + GREATEST:
            for count, space in enumerate(spaces_of(sight[0], 2)):
                expected = told_dims(sight, space)
                self.assertEqual(agreed(self, dims, sight, space) if count < 3 else dims(sight, space), expected)


class Within(unittest.TestCase):
    def test_inside(self):
        for sight in small_sights(4, 25) + GREATEST:
            size, views = sight
            for space in spaces_of(size, 3):
                if not space:
                    continue
                made = agreed(self, inside, sight, space)
                self.assertTrue(is_sight(made))
                self.assertEqual((made[0], len(made[1])), (len(space), len(views)))
                for view, other in zip(views, made[1]):
                    self.assertTrue(is_space(other, len(space)))
                    rows = [tuple(dot(row, point) for point in space) for row in view]
                    self.assertEqual(len(other), rank(rows))
                    self.assertTrue(all(spans(other, row) for row in rows))
                for inner in spaces_of(len(space), 3):
                    whole = agreed(self, from_inside, sight, space, inner) if inner == () else from_inside(sight, space, inner)
                    self.assertTrue(is_space(whole, size))
                    self.assertEqual(len(whole), len(inner))
                    self.assertTrue(all(is_in(whole, times_rows(times, space, size)) for times in inner))
                    # What is seen of it inside is what is seen of it.
                    self.assertEqual(dims(made, inner), dims(sight, whole))
        self.assertEqual(inside(SLANT, ((0, 1),)), (1, ((), ((1,),), ((1,),))))
        self.assertEqual(inside((2, (((2, 4), (0, 0)), ())), whole_space(2)), (2, (((1, 2),), ())))

    def test_beyond(self):
        for sight in small_sights(5, 25) + GREATEST:
            size, views = sight
            for space in spaces_of(size, 3):
                if len(space) == size:
                    continue
                made = agreed(self, beyond, sight, space)
                told = zeros_of(space, size)
                self.assertTrue(is_sight(made))
                self.assertEqual((made[0], len(made[1])), (size - len(space), len(views)))
                for view, other in zip(views, made[1]):
                    self.assertTrue(is_space(other, len(told)))
                    # Its ROWS tell sums of the VIEW's ROWS that show 0 of the SPACE, and all of them.
                    for times in other:
                        row = times_rows(times, told, size)
                        self.assertTrue(spans(view, row) if view else not any(row))
                    self.assertEqual(len(other), rank(view) - told_dims((size, (view,)), space)[1][0])
                for outer in spaces_of(len(told), 3):
                    whole = agreed(self, from_beyond, sight, space, outer) if outer == () else from_beyond(sight, space, outer)
                    self.assertTrue(is_space(whole, size))
                    self.assertTrue(within(space, whole))
                    self.assertEqual(len(whole), len(space) + len(outer))
                    self.assertTrue(all(spans(outer, seen(told, point)) for point in whole))
                    # The DIMENSIONS are those of the SPACE and of what is BEYOND it, added up.
                    self.assertEqual(dims(sight, whole), plus(dims(sight, space), dims(made, outer)))

    def test_beyond_stepped_anew(self):
        # How often each ROW of F is taken need not be stepped for a stepped TABLE of ROWS.
        told = ((1, 1, 0, 0), (0, 2, 1, 0), (0, 0, 0, 1))
        space = zeros_of(told, 4)
        self.assertEqual(zeros_of(space, 4), told)
        view = ((2, 0, -1, 1), (0, 2, 1, 0))
        self.assertEqual([taken(told, row) for row in view], [(2, -1, 1), (0, 1, 0)])
        self.assertEqual(beyond((4, (view,)), space), (3, (((2, 0, 1), (0, 1, 0)),)))

    def test_dims_add_up(self):
        for sight in small_sights(6, 15):
            several = spaces_of(sight[0], 2)
            for lower, upper in product(several, repeat=2):
                if within(lower, upper) and len(lower) < sight[0]:
                    told = zeros_of(lower, sight[0])
                    outer = filled([seen(told, point) for point in upper])
                    self.assertEqual(dims(sight, upper), plus(dims(sight, lower), dims(beyond(sight, lower), outer)))
                    self.assertEqual(from_beyond(sight, lower, outer), upper)

    def test_unfit(self):
        for sight in [SLANT, BOXES] + list(EDGES) + GREATEST[:2]:
            whole = whole_space(sight[0])
            for function, args in ((inside, ((),)), (from_inside, ((), ())), (beyond, (whole,)), (from_beyond, (whole, ()))):
                with self.assertRaises(Unfit):
                    agreed(self, function, sight, *args)
        self.assertEqual(beyond((1, (((2,),), ())), ()), (1, (((1,),), ())))
        self.assertEqual(inside((1, (((2,),), ())), ((1,),)), (1, (((1,),), ())))


class Made(unittest.TestCase):
    def test_with_view(self):
        for sight in small_sights(7, 6):
            for view in ((), ((1,) * sight[0],), ((0,) * sight[0],) * 2):
                made = agreed(self, with_view, sight, view)
                self.assertEqual(made, (sight[0], sight[1] + (view,)))
                self.assertTrue(is_sight(made))

    def test_based(self):
        for sight in small_sights(8, 8) + GREATEST[:4]:
            size, views = sight
            some = Random(size)
            if size < 3:
                tables = list(product(points(size, 1), repeat=size))
            else:
                tables = [tuple(tuple(some.randint(-1, 1) for _ in range(size)) for _ in range(size)) for _ in range(60)]
            for base in tables[::3]:
                if det(base) not in (1, -1):
                    with self.assertRaises(Unfit):
                        agreed(self, based, sight, base)
                    continue
                made = agreed(self, based, sight, base)
                self.assertTrue(is_sight(made))
                self.assertEqual([len(view) for view in made[1]], [len(view) for view in views])
                for point in whole_space(size) + ((1, 2, 3, 4)[:size],):
                    for view, other in zip(views, made[1]):
                        self.assertEqual(seen(other, seen(base, point)), seen(view, point))
        with self.assertRaises(Unfit):
            based(SLANT, ((0, 0), (0, 0)))
        with self.assertRaises(Unfit):
            based((1, ()), ((2,),))
        self.assertEqual(based((1, (((5,),),)), ((-1,),)), (1, (((-5,),),)))
        self.assertEqual(based((2, ()), ((0, 1), (1, 0))), (2, ()))

    def test_beside(self):
        several = small_sights(9, 12)
        for one, other in product(several[::3], several[::2]):
            if len(one[1]) != len(other[1]):
                with self.assertRaises(Unfit):
                    agreed(self, beside, one, other)
                continue
            made = agreed(self, beside, one, other)
            self.assertTrue(is_sight(made))
            self.assertEqual(made[0], one[0] + other[0])
            for view, first, then in zip(made[1], one[1], other[1], strict=True):
                self.assertEqual(len(view), len(first) + len(then))
                for point in whole_space(one[0]):
                    self.assertEqual(seen(view, point + (0,) * other[0]), seen(first, point) + (0,) * len(then))
                for point in whole_space(other[0]):
                    self.assertEqual(seen(view, (0,) * one[0] + point), (0,) * len(first) + seen(then, point))

    def test_alike(self):
        several = small_sights(10, 25)
        for one, other in product(several[::4], several):
            expected = one[0] == other[0] and len(one[1]) == len(other[1]) and all(
                rank(view + more) == rank(view) == rank(more) for view, more in zip(one[1], other[1]))
            self.assertIs(alike(one, other), expected, (one, other))
        twin = (2, (((2, 0),), ((0, 1), (0, 3)), ((1, 1),)))
        self.assertIs(agreed(self, alike, SLANT, twin), True)
        self.assertIs(agreed(self, alike, SLANT, (2, SLANT[1][:2])), False)
        self.assertIs(alike((1, ((),)), (2, ((),))), False)
        self.assertIs(alike((2, ()), (3, ())), False)
        self.assertIs(alike((2, ()), (2, ())), True)
        self.assertIs(alike((2, ((),)), (2, (((0, 0),),))), True)
        self.assertIs(alike(SLANT, (2, SLANT[1][::-1])), False)

    def test_finer(self):
        for sight in small_sights(11, 40):
            for one, other in product(range(len(sight[1])), repeat=2):
                # The kernel lies within the other's if the other's ROWS are sums of multiples of its ROWS.
                expected = rank(sight[1][one] + sight[1][other]) == rank(sight[1][one])
                self.assertIs(finer(sight, one, other), expected)
        self.assertIs(agreed(self, finer, BOXES, 0, 1), False)
        self.assertIs(agreed(self, finer, (2, ((), ((1, 0),))), 1, 0), True)

    def test_meets_and_sums_of_images(self):
        # Images of sums and meets come to at most those of both, whatever the VIEW.
        for sight in small_sights(12, 6):
            for space, other in product(spaces_of(sight[0], 4), repeat=2):
                both = plus(dims(sight, sum_space(space, other)), dims(sight, meet(space, other)))
                apart = plus(dims(sight, space), dims(sight, other))
                self.assertEqual(both[0], apart[0])
                self.assertTrue(all(less <= more for less, more in zip(both[1], apart[1])))

    def test_told_inside(self):
        # A POINT told inside by how often each ROW is taken shows what the POINT shows, up to one-to-one turns.
        space = ((1, 0, 1), (0, 1, -1))
        made = inside(CRATE, space)
        for number in range(3):
            for one, other in product(points(2, 2), repeat=2):
                first, then = times_rows(one, space, 3), times_rows(other, space, 3)
                self.assertEqual(taken(space, first), one)
                same = shown(CRATE, number, first) == shown(CRATE, number, then)
                self.assertIs(shown(made, number, one) == shown(made, number, other), same)


if __name__ == "__main__":
    unittest.main()
