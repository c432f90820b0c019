"""Spaces of points [6]."""

import unittest
from itertools import combinations, product
from random import Random

from seenlots.errors import Unfit
from seenlots.rows import filled, rank_of, stepped
from seenlots.spaces import back_image, image, image_dim, is_chain, is_in, is_longest, is_rest, is_space, longest, meet
from seenlots.spaces import rest_of, small_spaces, sum_space, taken, whole_space, within, zeros_of
from tests.test_rows import told_stepped
from tests.tools import ODD, agreed, check_thing, deep, dot, index, points, rank, spans, times_rows

BIG = 10 ** 12
PLANE, ROOM = small_spaces(2, 2), small_spaces(3, 1)


def told_space(table):
    """Whether a TABLE is that of a SPACE, by the document's words."""
    return told_stepped(table) and index(table) == 1


def some_spaces(some, size, most, many):
    """SPACES of a size, made of POINTS with numbers to most."""
    found = []
    for _ in range(many):
        count = some.randint(0, size)
        found.append(filled([tuple(some.randint(-most, most) for _ in range(size)) for _ in range(count)]))
    return found


def some_view(some, size, most):
    """A VIEW of up to 3 ROWS; now and then with a ROW of 0s, with one twice."""
    view = [tuple(some.randint(-most, most) for _ in range(size)) for _ in range(some.randint(0, 3))]
    if len(view) > 1 and some.random() < 0.3:
        view[0] = some.choice((view[1], (0,) * size))
    return tuple(view)


def pairs():
    """Pairs of SPACES of one size: all of the plane, of the room with small numbers, some greater ones."""
    for space, other in product(PLANE, repeat=2):
        yield 2, space, other
    for space, other in product(ROOM[::2], ROOM):
        yield 3, space, other
    some = Random(1)
    for size in range(1, 7):
        for most in (1, 3, BIG):
            several = some_spaces(some, size, most, 6)
            for space, other in zip(several, several[1:]):
                yield size, space, other


class Is(unittest.TestCase):
    def test_is_space(self):
        rows = points(2, 3)
        for thing in [(), ((),)] + [(row,) for row in rows] + list(product(rows, repeat=2)):
            expected = told_space(thing) if thing != ((),) else False
            self.assertIs(is_space(thing, 2), expected, thing)
        for thing in [(row,) for row in points(3, 2)] + list(product(points(3, 1), repeat=2)):
            self.assertIs(is_space(thing, 3), told_space(thing), thing)
        good = [(), ((1, 0), (0, 1)), ((2, 3),), ((0, 1),), ((10 ** 30, -10 ** 30 - 1),)]
        check_thing(self, lambda thing: is_space(thing, 2), good=good)
        for thing in (((2, 4),), ((-1, 0),), ((1, 2), (0, 2)), ((1, 1), (0, 1)), ((0, 0),), ((1, 0, 0),), deep(tuple, 100)):
            self.assertIs(is_space(thing, 2), False, thing)
        self.assertIs(agreed(self, is_space, ((1, 2),), 2), True)

    def test_whole_space(self):
        for size in range(1, 7):
            space = agreed(self, whole_space, size)
            self.assertTrue(is_space(space, size))
            self.assertEqual(len(space), size)
        self.assertEqual(whole_space(2), ((1, 0), (0, 1)))


class Points(unittest.TestCase):
    def check_point(self, space, point):
        inside = spans(space, point)
        self.assertIs(is_in(space, point), inside, (space, point))
        times = taken(space, point)
        if inside:
            self.assertEqual(times_rows(times, space, len(point)), tuple(point))
        else:
            self.assertIsNone(times)

    def test_small(self):
        for size, several in ((1, small_spaces(1, 2)), (2, PLANE), (3, ROOM)):
            for space in several:
                for point in points(size, 2):
                    self.check_point(space, point)
        for space in ROOM[::5]:
            agreed(self, is_in, space, (1, -1, 0))
            agreed(self, taken, space, (2, 2, 0))
        self.assertEqual(taken((), (0, 0)), ())
        self.assertIsNone(taken((), (0, 1)))
        self.assertIs(is_in((), (0,)), True)

    def test_great(self):
        some = Random(2)
        for size in (4, 5, 6):
            for space in some_spaces(some, size, BIG, 6):
                point = tuple(some.randint(-BIG, BIG) for _ in range(size))
                self.check_point(space, point)
                times = tuple(some.randint(-BIG, BIG) for _ in space)
                self.assertEqual(taken(space, times_rows(times, space, size)), times)


class Pairs(unittest.TestCase):
    def test_within(self):
        for size, space, other in pairs():
            expected = all(spans(other, row) for row in space)
            self.assertIs(within(space, other), expected)
            # A guarantee: exactly if zeros_of other lies within zeros_of space.
            self.assertIs(within(zeros_of(other, size), zeros_of(space, size)), expected)
        self.assertIs(agreed(self, within, ((1, 1, 0),), ((1, 0, 1), (0, 1, -1))), True)
        self.assertIs(agreed(self, within, ((1, 1, 0),), ()), False)
        self.assertIs(agreed(self, within, (), ()), True)

    def test_sum_and_meet(self):
        for size, space, other in pairs():
            both, shared = sum_space(space, other), meet(space, other)
            self.assertTrue(told_space(both) and told_space(shared))
            self.assertEqual(len(both), rank(space + other))
            self.assertTrue(all(spans(both, row) for row in space + other))
            self.assertTrue(all(spans(space, row) and spans(other, row) for row in shared))
            self.assertEqual(len(both) + len(shared), len(space) + len(other))
        for space, other in zip(ROOM[::3], ROOM[5:]):
            self.assertEqual(agreed(self, sum_space, space, other), agreed(self, sum_space, other, space))
            self.assertEqual(agreed(self, meet, space, other), agreed(self, meet, other, space))
        self.assertEqual(sum_space((), ()), ())
        self.assertEqual(meet((), ((1, 0), (0, 1))), ())
        self.assertEqual(sum_space(((1, 1),), ((1, -1),)), ((1, 0), (0, 1)))

    def test_points_of_meet(self):
        for space, other in product(ROOM[::3], ROOM[::4]):
            shared = meet(space, other)
            for point in points(3, 1):
                self.assertIs(is_in(shared, point), is_in(space, point) and is_in(other, point))

    def test_zeros_of(self):
        some = Random(3)
        for size in range(1, 7):
            for most in (1, 4, BIG):
                for count in (0, 1, 2, 3, 8):
                    rows = tuple(tuple(some.randint(-most, most) for _ in range(size)) for _ in range(count))
                    if count > 2 and most < BIG:
                        rows = rows[:1] * 2 + ((0,) * size,) + rows[3:]
                    space = agreed(self, zeros_of, rows, size)
                    self.assertTrue(told_space(space), (rows, space))
                    self.assertEqual(len(space), size - rank(rows))
                    self.assertTrue(all(dot(row, point) == 0 for row in rows for point in space))
                    self.assertEqual(len(space) + rank_of(rows), size)
        for size, several in ((2, PLANE), (3, ROOM)):
            for space in several:
                self.assertEqual(zeros_of(zeros_of(space, size), size), space)
        self.assertEqual(zeros_of((), 2), ((1, 0), (0, 1)))
        self.assertEqual(zeros_of(((0, 0),), 2), ((1, 0), (0, 1)))


class Images(unittest.TestCase):
    def cases(self):
        some = Random(4)
        for space in PLANE + ROOM[::2]:
            for _ in range(3):
                yield some_view(some, 2 if space in PLANE else 3, 2), space
        for size in range(1, 7):
            for most in (2, BIG):
                for space in some_spaces(some, size, most, 5):
                    yield some_view(some, size, most), space

    def test_image(self):
        for count, (view, space) in enumerate(self.cases()):
            if view and space and len(view[0]) != len(space[0]):
                continue
            seen = [tuple(dot(row, point) for row in view) for point in space]
            made = agreed(self, image, view, space) if count % 5 == 0 else image(view, space)
            dim = agreed(self, image_dim, view, space) if count % 5 == 0 else image_dim(view, space)
            self.assertEqual(len(made), rank(seen) if view else 0)
            self.assertEqual(dim, len(made))
            self.assertTrue(told_space(made))
            self.assertTrue(all(spans(made, row) for row in seen) if view else made == ())
            if view and space:
                # A guarantee: the dims of the image and of what lies in the kernel come to dim of space.
                size = len(space[0])
                self.assertEqual(dim + len(meet(space, zeros_of(view, size))), len(space))
        self.assertEqual((image((), ((1, 0),)), image_dim((), ((1, 0),))), ((), 0))
        self.assertEqual((image(((1, 0),), ()), image_dim(((1, 0),), ())), ((), 0))
        self.assertEqual((image((), ()), image_dim((), ())), ((), 0))
        self.assertEqual(image(((2, 0), (0, 0)), ((1, 0),)), ((1, 0),))
        self.assertEqual(image(((2, 0), (2, 0)), ((1, 0),)), ((1, 1),))

    def test_of_sum_and_meet(self):
        some = Random(5)
        for space, other in product(ROOM[::3], ROOM[::4]):
            view = some_view(some, 3, 2)
            both = image_dim(view, sum_space(space, other)) + image_dim(view, meet(space, other))
            self.assertLessEqual(both, image_dim(view, space) + image_dim(view, other))

    def test_back_image(self):
        some = Random(6)
        for size, most in ((1, 2), (2, 2), (3, 2), (4, 2), (6, BIG)):
            for count in (1, 2, 3):
                for space in some_spaces(some, count, min(most, 3), 6):
                    view = tuple(tuple(some.randint(-most, most) for _ in range(size)) for _ in range(count))
                    back = agreed(self, back_image, view, space, size)
                    self.assertTrue(told_space(back))
                    # Its dim: that of the kernel, and of what of the whole image lies in space.
                    kernel, whole = zeros_of(view, size), image(view, whole_space(size))
                    self.assertEqual(len(back), len(kernel) + len(meet(whole, space)))
                    for point in back:
                        self.assertTrue(spans(space, tuple(dot(row, point) for row in view)))
                    if size <= 3:
                        for point in points(size, 2):
                            seen = tuple(dot(row, point) for row in view)
                            self.assertIs(is_in(back, point), spans(space, seen))
        self.assertEqual(back_image(((0, 0),), (), 2), ((1, 0), (0, 1)))
        self.assertEqual(back_image(((1, 0), (0, 1)), ((1, 2),), 2), ((1, 2),))


class Rest(unittest.TestCase):
    def told_rest(self, outer, inner, rows):
        """Whether rows with the ROWS of inner have just the POINTS in outer as whole sums, by determinants."""
        if len(rows) != len(outer) - len(inner):
            return False
        table = [taken(outer, row) for row in tuple(inner) + tuple(rows)]
        return None not in table and rank(table) == len(outer) and index(table) == 1 if outer else True

    def test_rest(self):
        for count, (_, space, other) in enumerate(pairs()):
            for outer, inner in ((space, other), (sum_space(space, other), space), (space, meet(space, other))):
                call = agreed if count % 9 == 0 else lambda case, function, *args: function(*args)
                if not within(inner, outer):
                    with self.assertRaises(Unfit):
                        call(self, rest_of, outer, inner)
                    with self.assertRaises(Unfit):
                        is_rest(outer, inner, ODD[count % len(ODD)])
                    continue
                rows = call(self, rest_of, outer, inner)
                self.assertTrue(self.told_rest(outer, inner, rows), (outer, inner, rows))
                self.assertIs(call(self, is_rest, outer, inner, rows), True)
                if rows:
                    self.assertIs(is_rest(outer, inner, rows[:-1]), False)
                    self.assertIs(is_rest(outer, inner, rows + rows[:1]), False)
                    double = tuple(2 * part for part in rows[0])
                    self.assertIs(is_rest(outer, inner, (double,) + rows[1:]), False)
        self.assertEqual(rest_of((), ()), ())
        self.assertEqual(rest_of(PLANE[3], PLANE[3]), ())

    def test_is_rest(self):
        flat, even = ((1, 0, 1), (0, 1, -1)), ((1, 1, 0),)
        good = [((0, 1, -1),), ((1, 0, 1),), ((-1, 0, -1),), ((1, 2, -1),)]
        check_thing(self, is_rest, flat, even, good=good)
        for point in points(3, 2):
            self.assertIs(is_rest(flat, even, (point,)), self.told_rest(flat, even, (point,)), point)
        check_thing(self, is_rest, flat, flat, good=[()])
        check_thing(self, is_rest, (), (), good=[()])
        whole = whole_space(2)
        for thing in product(points(2, 2), repeat=2):
            self.assertIs(is_rest(whole, (), thing), self.told_rest(whole, (), thing))
        for thing in ODD + (good[0],):
            with self.assertRaises(Unfit):
                is_rest(even, flat, thing)
        self.assertIs(is_rest(flat, (), ((1, 0, 1), (1, 0, 1))), False)


class Chains(unittest.TestCase):
    def told_chain(self, chain):
        return all(told_space(space) for space in chain) and all(
            lower != upper and all(spans(upper, row) for row in lower) for lower, upper in zip(chain, chain[1:]))

    def test_is_chain(self):
        even, flat = ((1, 1, 0),), ((1, 0, 1), (0, 1, -1))
        good = [(), ((),), (even, flat), ((), even, flat, whole_space(3)), (flat,)]
        check_thing(self, lambda thing: is_chain(thing, 3), good=good)
        for thing in ((flat, even), (even, even), ((), ()), (((1, 0, 0),), flat), (((2, 2, 0),), flat), (((1, 1),),), even, flat):
            self.assertIs(is_chain(thing, 3), False, thing)
        for thing in product(PLANE, repeat=2):
            self.assertIs(is_chain(thing, 2), self.told_chain(thing))
        for thing in product(PLANE[::3], repeat=3):
            self.assertIs(is_chain(thing, 2), self.told_chain(thing))
        self.assertIs(agreed(self, is_chain, (even, flat), 3), True)

    def chains(self):
        for size, several in ((1, small_spaces(1, 1)), (2, PLANE), (3, ROOM[::2])):
            yield size, ()
            for count in (1, 2, 3):
                for chain in combinations(sorted(several, key=lambda space: (len(space), space)), count):
                    if all(len(lower) < len(upper) and within(lower, upper) for lower, upper in zip(chain, chain[1:])):
                        yield size, chain
        some = Random(7)
        for size in (4, 5, 6):
            for space, other in zip(some_spaces(some, size, 3, 8), some_spaces(some, size, BIG, 8)):
                yield size, (space,) if space else ()
                if space and meet(space, other) != space:
                    yield size, (meet(space, other), space)

    def test_longest(self):
        for count, (size, chain) in enumerate(self.chains()):
            found = agreed(self, longest, chain, size) if count % 10 == 0 else longest(chain, size)
            self.assertTrue(self.told_chain(found))
            self.assertEqual([len(space) for space in found], list(range(size + 1)))
            self.assertTrue(all(space in found for space in chain))
            self.assertIs(is_longest(chain, size, found), True)
            for place in range(size + 1):
                self.assertIs(is_longest(chain, size, found[:place] + found[place + 1:]), False)

    def test_is_longest(self):
        even, flat = ((1, 1, 0),), ((1, 0, 1), (0, 1, -1))
        good = [((), even, flat, whole_space(3)), ((), ((1, 0, 1),), flat, whole_space(3))]
        check_thing(self, is_longest, (flat,), 3, good=good)
        check_thing(self, is_longest, (even,), 3, good=good[:1])
        self.assertIs(is_longest((even,), 3, good[1]), False)
        check_thing(self, is_longest, (), 1, good=[((), ((1,),))])
        self.assertIs(is_longest((), 3, (even, flat, whole_space(3))), False)


class Small(unittest.TestCase):
    def test_small_spaces(self):
        for size, most in ((1, 1), (1, 2), (2, 1), (2, 2), (3, 1)):
            found = agreed(self, small_spaces, size, most)
            self.assertEqual(found, sorted(set(found)))
            self.assertTrue(all(told_space(space) for space in found))
            # All that small POINTS span: one, two, three of them, up to sign.
            lines = [point for point in points(size, most) if point > (0,) * size]
            expected = {stepped(())} | {filled(some) for count in range(1, size + 1) for some in combinations(lines, count)}
            self.assertEqual(set(found), expected)
        self.assertEqual([len(small_spaces(2, 1)), len(small_spaces(2, 2)), len(small_spaces(1, 2))], [6, 10, 2])

    def test_greatest(self):
        found = small_spaces(3, 2)
        self.assertEqual(found, sorted(set(found)))
        self.assertTrue(set(ROOM) < set(found))
        lines = [point for point in points(3, 2) if point > (0, 0, 0)]
        self.assertEqual({space for space in found if len(space) == 1}, {filled([point]) for point in lines})
        for space in found:
            small = [point for point in lines if is_in(space, point)]
            self.assertEqual(rank(small), len(space))
        some = Random(8)
        for _ in range(200):
            self.assertIn(filled(some.sample(lines, 2)), found)


if __name__ == "__main__":
    unittest.main()
