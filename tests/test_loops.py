"""Nests of loops, and how much must be loaded [21]."""

import unittest
from fractions import Fraction
from itertools import combinations, permutations, product
from math import lcm, prod
from random import Random

from seenlots.errors import NoPaper, TooMany, Unfit
from seenlots.flags import best_flag, flag_heights
from seenlots.holds import holds
from seenlots.loops import best_loads, best_order, best_sides, block_cells, blocked, fence, fewest_loads, flag_base, flag_blocks
from seenlots.loops import flag_sides, is_fence, is_flag_base, is_keeping, is_nest, is_order, keeping, most_done, nest_points, told_loads
from seenlots.loops import touched
from seenlots.powers import whole_part
from seenlots.rows import filled
from seenlots.spaces import small_spaces, whole_space, within
from tests.shares import FEW, FRACTIONS, HALF, NONE, ONE, THIRD, fraction, is_blind, some_shares, value
from tests.tools import ODD, agreed, check_thing, deep, det, dot, times_rows

GRID = ((2, 2), (((1, 0),), ((0, 1),)))
CUBE = ((4, 4, 4), (((1, 0, 0), (0, 1, 0)), ((0, 1, 0), (0, 0, 1)), ((1, 0, 0), (0, 0, 1))))
LINE, SNAKE = ((0, 0), (0, 1), (1, 0), (1, 1)), ((0, 0), (0, 1), (1, 1), (1, 0))
UNIT = ((1, 0), (0, 1))
BASES = {1: [((1,),), ((-1,),)], 2: [UNIT, ((0, 1), (1, 0)), ((1, 1), (0, 1)), ((2, 1), (-3, -2)), ((1, 99), (0, -1)), ((-1, 0), (5, 1))],
         3: [((1, 0, 0), (0, 1, 0), (0, 0, 1)), ((1, 1, 1), (0, 1, 2), (0, 0, 1)), ((0, 0, 1), (1, 0, 7), (2, -1, 99))],
         4: [tuple(tuple(int(k == row) for k in range(4)) for row in range(4)), ((1, 2, 0, 0), (0, 1, 0, -1), (3, 0, 1, 0), (0, 0, 0, -1))]}


def told_cells(nest, point):
    return [(number, tuple(dot(row, point) for row in view)) for number, view in enumerate(nest[1])]


def some_nest(some, ranges, arrays, most=1):
    """A NEST of these ranges; now and then with an array (), of 0s, or one twice."""
    size = len(ranges)
    views = []
    for _ in range(arrays):
        draw = some.random()
        rows = some.choice((1, 1, 1, 2)) if draw > 0.15 else 0
        views.append(tuple(tuple(some.randint(-most, most) if some.random() < 0.7 else 0 for _ in range(size)) for _ in range(rows)))
    if arrays > 1 and some.random() < 0.1:
        views[-1] = views[0]
    return tuple(ranges), tuple(views)


SMALL = [(1,), (2,), (3,), (4,), (5,), (6,), (2, 2), (1, 3), (2, 3), (3, 2), (1, 1, 1), (2, 1, 2), (1, 2, 3), (1, 1, 2, 2)]
GREAT = [(8,), (64,), (3, 3), (8, 8), (4, 4, 4), (2, 4, 8), (2, 2, 2, 2), (1, 64), (4, 2, 2, 4), (5, 7)]


def nests(seed, shapes, many):
    """Triples (nest, store, some): a store just as great as the arrays, and such that have more room."""
    some = Random(seed)
    for _ in range(many):
        arrays = some.choice((0, 1, 2, 2, 3, 3, 4))
        nest = some_nest(some, some.choice(shapes), arrays)
        yield nest, max(1, arrays + some.choice((0, 0, 1, 1, 2, 3, 5))), some


def some_order(some, nest):
    order = list(product(*[range(most) for most in nest[0]]))
    some.shuffle(order)
    return tuple(order)


def told_stretches(nest, order):
    """A table from each stretch to the places that it passes, by the document's words."""
    found = {}
    for place, point in enumerate(order):
        for cell in told_cells(nest, point):
            later = [k for k in range(place + 1, len(order)) if cell in told_cells(nest, order[k])]
            if later:
                found[(cell, place)] = range(place + 1, later[0])
    return found


def told_keeping(nest, order, store, thing):
    """Whether thing is a KEEPING, by the document's words."""
    stretches = told_stretches(nest, order)
    if list(thing) != sorted(set(thing)) or not set(thing) <= set(stretches):
        return False
    room = store - len(nest[1])
    return all(sum(place in stretches[part] for part in thing) <= room for place in range(len(order)))


def stored_loads(nest, order, store):
    """The least number of loads: all CELLS that can lie in the store from POINT to POINT, step by step."""
    states = {frozenset(): 0}
    for point in order:
        cells = set(told_cells(nest, point))
        later = {}
        for held, loads in states.items():
            more = loads + len(cells - held)
            others = sorted(held - cells)
            for count in range(min(len(others), store - len(cells)) + 1):
                for kept in combinations(others, count):
                    state = frozenset(cells | set(kept))
                    if later.get(state, more) >= more:
                        later[state] = more
        states = later
    return min(states.values())


class Nest(unittest.TestCase):
    def test_is_nest(self):
        check_thing(self, is_nest, good=[GRID, ((1,), ()), ((5,), ((), ((2,), (0,)))), ((10 ** 30, 1), (((0, 0),),))])
        for thing in (((), ()), ((0,), ()), ((-1, 2), ()), ((2, 2), (((1,),),)), ((2,), (((1,),), None)), ((2,),), ((2,), (), ()), ((2, True), ()),
                      (2, ()), ((2,), ((1,),)), ((2,), 1), deep(tuple, 100), ((2,), deep(tuple, 99))):
            self.assertIs(is_nest(thing), False, thing)
        self.assertIs(agreed(self, is_nest, CUBE), True)

    def test_points_and_cells(self):
        for nest, _, some in nests(91, SMALL + GREAT, 80):
            told = agreed(self, nest_points, nest)
            self.assertEqual(told, sorted(product(*[range(most) for most in nest[0]])))
            lot = tuple(sorted(some.sample(told, some.randint(0, min(9, len(told))))))
            self.assertEqual(agreed(self, touched, nest, lot), tuple(sorted({cell for point in lot for cell in told_cells(nest, point)})))
        self.assertEqual(touched(GRID, ()), ())
        self.assertEqual(touched(((3,), ((),)), ((0,), (2,))), ((0, ()),))
        self.assertEqual(touched(GRID, LINE), ((0, (0,)), (0, (1,)), (1, (0,)), (1, (1,))))

    def test_is_order(self):
        for nest in (GRID, ((3,), ()), ((2, 1, 2), (((1, 0, 0),),))):
            points = nest_points(nest)
            for thing in product(points, repeat=len(points)):
                self.assertIs(is_order(nest, thing), set(thing) == set(points))
        check_thing(self, is_order, GRID, good=[LINE, SNAKE, LINE[::-1]])
        check_thing(self, is_order, ((1, 1), ()), good=[((0, 0),)])
        for thing in (LINE[:3], LINE + LINE[:1], LINE[:3] + ((1, 2),), LINE[:3] + ((0, 0),), LINE[:3] + ((1,),), (), deep(tuple, 100)):
            self.assertIs(is_order(GRID, thing), False, thing)
        self.assertIs(agreed(self, is_order, GRID, SNAKE), True)


class Loads(unittest.TestCase):
    def check_order(self, nest, order, store, way):
        stretches = told_stretches(nest, order)
        room = store - len(nest[1])
        loads = way(fewest_loads, nest, order, store)
        kept = way(keeping, nest, order, store)
        self.assertTrue(told_keeping(nest, order, store, kept), (nest, order, store, kept))
        self.assertEqual(len(kept), len(order) * len(nest[1]) - loads)
        self.assertIs(way(is_keeping, nest, order, store, kept), True)
        places = way(fence, nest, order, store)
        self.assertEqual(list(places), sorted(set(places)))
        self.assertTrue(set(places) <= set(range(len(order))))
        # As many as a KEEPING has: no set of places tells less, and no KEEPING has more.
        free = sum(not set(passed) & set(places) for passed in stretches.values())
        self.assertEqual(room * len(places) + free, len(kept), (nest, order, store, places))
        self.assertIs(way(is_fence, nest, order, store, places), True)
        return loads, kept, stretches

    def test_small(self):
        for nest, store, some in nests(92, SMALL, 250):
            order = some_order(some, nest)
            loads, kept, stretches = self.check_order(nest, order, store, lambda *args: agreed(self, *args))
            self.assertEqual(loads, stored_loads(nest, order, store), (nest, order, store))
            others = sorted(stretches)
            for _ in range(5):
                thing = tuple(sorted(some.sample(others, min(len(others), some.choice((len(kept), len(kept), len(kept) + 1, max(0, len(kept) - 1)))))))
                self.assertIs(is_keeping(nest, order, store, thing), told_keeping(nest, order, store, thing) and len(thing) == len(kept))
            for _ in range(5):
                places = tuple(sorted(some.sample(range(len(order)), some.randint(0, len(order)))))
                free = sum(not set(passed) & set(places) for passed in stretches.values())
                told = (store - len(nest[1])) * len(places) + free
                self.assertGreaterEqual(told, len(kept))
                self.assertIs(is_fence(nest, order, store, places), told == len(kept))

    def test_great(self):
        for nest, store, some in nests(93, GREAT, 40):
            for order in (tuple(nest_points(nest)), some_order(some, nest)):
                loads, _, stretches = self.check_order(nest, order, store, lambda function, *args: function(*args))
                cells = len(touched(nest, order))
                self.assertLessEqual(cells, loads)
                # Room for all CELLS: each one is loaded once.
                self.assertEqual(fewest_loads(nest, order, max(1, cells + len(nest[1]))), cells)
                self.assertEqual(len(stretches), len(order) * len(nest[1]) - cells)
                if prod(nest[0]) <= 16 and cells < 12:
                    self.assertEqual(loads, stored_loads(nest, order, store))

    def test_eight_points(self):
        for nest, store, some in nests(94, [(8,), (2, 4), (2, 2, 2), (9,), (3, 3)], 60):
            if store - len(nest[1]) <= 2:
                order = some_order(some, nest)
                self.assertEqual(fewest_loads(nest, order, store), stored_loads(nest, order, store))

    def test_best(self):
        for nest, store, _ in nests(95, SMALL, 140):
            points = nest_points(nest)
            if len(points) == 6 and len(nest[1]) > 2 and store % 2:
                continue
            loads, order = agreed(self, best_loads, nest, store), agreed(self, best_order, nest, store)
            several = [(fewest_loads(nest, some, store), some) for some in permutations(points)]
            self.assertEqual((loads, order), min(several), (nest, store))

    def test_edges(self):
        one = ((1,), (((1,),), ()))
        self.assertEqual((fewest_loads(one, ((0,),), 2), keeping(one, ((0,),), 2), best_loads(one, 2), best_order(one, 2)), (2, (), 2, ((0,),)))
        self.assertEqual(is_fence(one, ((0,),), 2, ()), True)
        bare = ((2, 3), ())
        for store in (1, 16):
            self.assertEqual((fewest_loads(bare, tuple(nest_points(bare)), store), best_loads(bare, store)), (0, 0))
            self.assertEqual(best_order(bare, store), tuple(nest_points(bare)))
            self.assertEqual(keeping(bare, tuple(nest_points(bare)), store), ())
            self.assertIs(is_fence(bare, tuple(nest_points(bare)), store, ()), True)
        still = ((6,), ((),))
        self.assertEqual((best_loads(still, 1), best_order(still, 1)), (1, tuple((k,) for k in range(6))))
        self.assertEqual(len(keeping(still, tuple(nest_points(still)), 1)), 5)
        # 64 points, one array whose CELLS come again after 8 others: room for 7 more keeps all of them.
        wide = ((8, 8), (((0, 1),),))
        order = tuple(nest_points(wide))
        self.assertEqual([fewest_loads(wide, order, store) for store in (1, 8, 9)], [64, 8, 8])
        self.assertTrue(all(fewest_loads(wide, order, store) == stored_loads(wide, order, store) for store in (2, 3, 7)))

    def test_things(self):
        check_thing(self, is_keeping, GRID, SNAKE, 2, good=[(((0, (0,)), 0), ((0, (1,)), 2), ((1, (1,)), 1))])
        check_thing(self, is_keeping, GRID, LINE, 2, good=[(((0, (0,)), 0), ((0, (1,)), 2))])
        check_thing(self, is_keeping, ((3,), ((),)), ((0,), (1,), (2,)), 1, good=[(((0, ()), 0), ((0, ()), 1))])
        check_thing(self, is_keeping, ((1,), ()), ((0,),), 1, good=[()])
        check_thing(self, is_fence, GRID, LINE, 2, good=[(1, 2), (0, 1, 2), (1, 2, 3), (0, 1, 2, 3)])
        check_thing(self, is_fence, ((1,), ()), ((0,),), 1, good=[()])
        for thing in ((((0, (0,)), 0),), (((0, (0,)), 0), ((0, (1,)), 2), ((1, (0,)), 0)), (((0, (1,)), 2), ((0, (0,)), 0)),
                      (((0, (0,)), 0), ((0, (0,)), 0)), (((0, (0,)), 1), ((0, (1,)), 2)), (((2, (0,)), 0), ((0, (1,)), 2)), deep(tuple, 100)):
            self.assertIs(is_keeping(GRID, LINE, 2, thing), False, thing)
        for thing in ((1,), (2, 1), (1, 1, 2), (1, 2, 4), (-1, 1, 2), (1, 2, 10 ** 30), deep(tuple, 100)):
            self.assertIs(is_fence(GRID, LINE, 2, thing), False, thing)

    def test_unfit(self):
        for order in (LINE[:3], LINE + LINE[:1], LINE[:3] + ((1, 2),), (), ((0, 0),) * 4, LINE[:3] + ((1,),)):
            # An order that is none comes first, however great the store.
            for store in (1, 2, 16):
                for function in (fewest_loads, keeping, fence):
                    with self.assertRaises(Unfit):
                        agreed(self, function, GRID, order, store)
                for thing in (None, (1, 2)):
                    for function in (is_keeping, is_fence):
                        with self.assertRaises(Unfit):
                            function(GRID, order, store, thing)
        for function in (fewest_loads, keeping, fence):
            with self.assertRaises(Unfit):
                agreed(self, function, GRID, LINE, 1)
        for thing in ODD + ((1, 2),):
            for function in (is_keeping, is_fence):
                with self.assertRaises(Unfit):
                    function(GRID, LINE, 1, thing)

    def test_too_many(self):
        for function in (best_loads, best_order):
            for nest in (((7,), ()), CUBE, ((2, 2, 2), (((1, 0, 0),),))):
                with self.assertRaises(TooMany):
                    agreed(self, function, nest, 4)
            # Unfit is ahead of it.
            with self.assertRaises(Unfit):
                agreed(self, function, CUBE, 2)
            with self.assertRaises(Unfit):
                agreed(self, function, GRID, 1)


def told_done(shares, cells):
    """The whole part of the greatest product of powers of numbers that come to at most cells, by all choices."""
    if cells < len(shares):
        return 0
    many = lcm(1, *[bottom for _, bottom in shares])
    best = 0
    for numbers in product(*[range(1, cells + 1) for _ in shares]):
        if sum(numbers) <= cells:
            best = max(best, prod(number ** (top * many // bottom) for number, (top, bottom) in zip(numbers, shares)))
    part = 0
    while (part + 1) ** many <= best:
        part += 1
    return part


class Told(unittest.TestCase):
    def test_most_done(self):
        some = Random(96)
        for shares in [(), (NONE,), (ONE,), (HALF, HALF, HALF), (ONE, ONE), (NONE, NONE), (ONE, NONE, HALF), ((1, 12), (11, 12))]:
            for cells in range(11):
                self.assertEqual(agreed(self, most_done, shares, cells), told_done(shares, cells), (shares, cells))
        for _ in range(120):
            shares = tuple(some.choice(some.choice((FEW, FRACTIONS[:12]))) for _ in range(some.randint(1, 3)))
            cells = some.randint(0, 10)
            self.assertEqual(most_done(shares, cells), told_done(shares, cells), (shares, cells))
        self.assertEqual((most_done((), 0), most_done((ONE,) * 4, 32), most_done(((5, 12), (7, 11), (1, 9), (3, 8)), 32)), (1, 4096, told_great()))

    def test_told_loads(self):
        some = Random(97)
        count = 0
        for nest, store, _ in nests(98, SMALL + GREAT[:6], 350):
            if len(nest[0]) > 3:
                continue
            sight = (len(nest[0]), nest[1])
            for shares in ([tuple(some.choice(FRACTIONS) for _ in nest[1])] if is_blind(sight) else some_shares(5, sight, 1)[::3]):
                if not holds(sight, shares):
                    with self.assertRaises(NoPaper):
                        agreed(self, told_loads, nest, shares, store)
                    continue
                points = nest_points(nest)
                expected = len(touched(nest, points))
                for more in range(1, store + 1):
                    done = most_done(shares, store + more)
                    expected = max(expected, more * (-(-len(points) // done) - 1) + 1)
                told = agreed(self, told_loads, nest, shares, store)
                self.assertEqual(told, expected)
                # No ORDER has fewer loads.
                if len(points) <= 6:
                    self.assertLessEqual(told, best_loads(nest, store))
                for _ in range(2):
                    self.assertLessEqual(told, fewest_loads(nest, some_order(some, nest), store))
                count += 1
        self.assertGreater(count, 80)

    def test_errors(self):
        # Unfit for the store is ahead of NoPaper.
        for shares in ((HALF, HALF), (ONE, ONE), (NONE, NONE)):
            with self.assertRaises(Unfit):
                agreed(self, told_loads, GRID, shares, 1)
        with self.assertRaises(NoPaper):
            agreed(self, told_loads, GRID, (HALF, ONE), 2)
        with self.assertRaises(NoPaper):
            agreed(self, told_loads, ((3,), ()), (), 1)
        self.assertEqual(agreed(self, told_loads, CUBE, (HALF, HALF, HALF), 3), 94)


def told_great():
    """The whole part of the greatest product for 32 CELLS, by all choices of four numbers, by logs of whole numbers."""
    shares = ((5, 12), (7, 11), (1, 9), (3, 8))
    best = ()
    for numbers in product(range(1, 27), repeat=3):
        last = 32 - sum(numbers)
        if last >= 1:
            powers = tuple(zip(numbers + (last,), shares))
            if whole_part(powers) >= (whole_part(best) if best else 0):
                best = powers
    return whole_part(best)


def told_counts(base, point):
    """The counts of a POINT: by cofactors of the base."""
    size = len(base)
    whole = det(base)
    return tuple(det(tuple(point if k == place else base[k] for k in range(size))) * whole for place in range(size))


def told_blocks(nest, base, sides):
    """A table from each block to its points with their counts."""
    found = {}
    for point in product(*[range(most) for most in nest[0]]):
        counts = told_counts(base, point)
        assert times_rows(counts, base, len(base)) == point
        found.setdefault(tuple(part // side for part, side in zip(counts, sides)), []).append((counts, point))
    return found


def bad_bases(size):
    """What is no base of this size."""
    unit = tuple(tuple(int(k == row) for k in range(size)) for row in range(size))
    return [(), unit[1:], unit + unit[:1], unit[:-1] + ((0,) * size,), unit[:-1] + (tuple(2 * part for part in unit[-1]),), tuple(row + (0,) for row in unit),
            ((1,) * size,) * size if size > 1 else ((3,),)]


class Blocks(unittest.TestCase):
    def test_blocked(self):
        for nest, store, some in nests(99, SMALL + GREAT, 120):
            size = len(nest[0])
            base = some.choice(BASES[size])
            sides = tuple(some.choice((1, 1, 2, 3, 5, 64)) for _ in range(size))
            blocks = told_blocks(nest, base, sides)
            way = agreed if prod(nest[0]) < 9 else lambda _, function, *args: function(*args)
            order = way(self, blocked, nest, base, sides)
            self.assertEqual(order, tuple(point for block in sorted(blocks) for _, point in sorted(blocks[block])))
            self.assertIs(is_order(nest, order), True)
            cells = way(self, block_cells, nest, base, sides)
            self.assertEqual(cells, tuple(len({cell for _, point in blocks[block] for cell in told_cells(nest, point)}) for block in sorted(blocks)))
            if max(cells) <= store:
                self.assertLessEqual(fewest_loads(nest, order, store), sum(cells))

    def test_best_sides(self):
        for nest, store, some in nests(100, SMALL + GREAT, 60):
            size = len(nest[0])
            base = some.choice(BASES[size])
            best = None
            for sides in product(*[range(1, most + 1) for most in nest[0]]):
                cells = block_cells(nest, base, sides)
                if max(cells) <= store and (best is None or (sum(cells), sides) < best):
                    best = (sum(cells), sides)
            way = agreed if prod(nest[0]) < 9 else lambda _, function, *args: function(*args)
            self.assertEqual(way(self, best_sides, nest, base, store), best[1], (nest, base, store))
        self.assertEqual(best_sides(((3, 2), ()), UNIT, 1), (1, 1))
        self.assertEqual(best_sides(((3, 2), ((),)), UNIT, 1), (3, 2))

    def test_unfit(self):
        for nest in (GRID, ((3,), ()), ((1, 2, 3), (((1, 0, 0),),))):
            size = len(nest[0])
            for base in bad_bases(size):
                for function, args in ((blocked, (nest, base, (1,) * size)), (block_cells, (nest, base, (2,) * size)), (best_sides, (nest, base, 4))):
                    with self.assertRaises(Unfit):
                        agreed(self, function, *args)
        for base in (UNIT, ((1, 1), (1, 1)), ()):
            with self.assertRaises(Unfit):
                agreed(self, best_sides, GRID, base, 1)
            with self.assertRaises(Unfit):
                agreed(self, flag_blocks, GRID, (), base, 1)


def some_flags(some, size, many):
    """FLAGS of this size: (), and chains of SPACES with weights."""
    spaces = [space for space in small_spaces(size, 1 if size > 2 else 2) if space]
    found = [()]
    for _ in range(many):
        chain = []
        for space in sorted(some.sample(spaces, min(len(spaces), 6)), key=len):
            if not chain or len(chain[-1]) < len(space) and within(chain[-1], space):
                chain.append(space)
        found.append(tuple((space, some.choice((ONE, HALF, THIRD, (1, 12), (3, 2)))) for space in chain))
    return found


class Flags(unittest.TestCase):
    def test_flag_base(self):
        some = Random(101)
        for size in (1, 2, 3):
            for flag in some_flags(some, size, 25):
                base = agreed(self, flag_base, size, flag)
                self.assertEqual(abs(det(base)), 1)
                self.assertEqual([len(row) for row in base], [size] * size)
                for space, _ in flag:
                    self.assertEqual(filled(base[:len(space)]), space)
                self.assertIs(agreed(self, is_flag_base, size, flag, base), True)
                for other in BASES[size]:
                    follows = all(filled(other[:len(space)]) == space for space, _ in flag)
                    self.assertIs(is_flag_base(size, flag, other), follows)
        self.assertIs(is_flag_base(4, ((((1, 0, 0, 0), (0, 1, 0, -1)), ONE),), flag_base(4, ((((1, 0, 0, 0), (0, 1, 0, -1)), ONE),))), True)
        self.assertEqual(abs(det(flag_base(2, ((((10 ** 30, 10 ** 30 + 1),), ONE),)))), 1)

    def test_things(self):
        flag = ((((1, 2),), HALF), (UNIT, ONE))
        check_thing(self, is_flag_base, 2, flag, good=[((1, 2), (0, 1)), ((-1, -2), (1, 1)), ((1, 2), (10 ** 30, 2 * 10 ** 30 - 1))])
        check_thing(self, is_flag_base, 1, (), good=[((1,),), ((-1,),)])
        for thing in (UNIT, ((1, 2), (2, 4)), ((1, 2),), ((2, 4), (0, 1)), ((1, 2), (0, 1), (0, 0)), (), ((1, 2), (1, 0)), deep(tuple, 100)):
            self.assertIs(is_flag_base(2, flag, thing), False, thing)

    def test_sides(self):
        some = Random(102)
        for size in (1, 2, 3):
            for flag in some_flags(some, size, 15):
                for number in (1, 2, 3, 7, 16):
                    told = agreed(self, flag_sides, size, flag, number)
                    self.assertEqual(len(told), size)
                    for place, side in enumerate(told):
                        much = sum((value(weight) for space, weight in flag if len(space) > place), Fraction(0))
                        self.assertTrue(side ** much.denominator <= number ** much.numerator < (side + 1) ** much.denominator)
        self.assertEqual(flag_sides(3, (), 16), (1, 1, 1))
        self.assertEqual(flag_sides(3, ((((0, 1, 0),), HALF),), 16), (4, 1, 1))

    def test_blocks(self):
        some = Random(103)
        for nest, store, _ in nests(104, SMALL[:13] + GREAT[:7], 60):
            size = len(nest[0])
            if size > 3:
                continue
            for flag in some_flags(some, size, 2):
                base = flag_base(size, flag)
                told = agreed(self, flag_blocks, nest, flag, base, store) if prod(nest[0]) < 9 else flag_blocks(nest, flag, base, store)
                fits = [number for number in range(1, store + 1)
                        if max(block_cells(nest, base, flag_sides(size, flag, number))) <= store]
                self.assertEqual(told, max(fits))
                for other in BASES[size] + [base[::-1]] + bad_bases(size):
                    if not is_flag_base(size, flag, other):
                        with self.assertRaises(Unfit):
                            agreed(self, flag_blocks, nest, flag, other, store)
        with self.assertRaises(Unfit):
            agreed(self, flag_blocks, GRID, (), UNIT, 1)

    def test_few_cells_in_a_block(self):
        # By a FLAG that fits the HEIGHTS 1, 1, .. a block touches at most some number times n CELLS.
        flag = best_flag((3, CUBE[1]), (ONE, ONE, ONE))
        self.assertTrue(all(value(height) <= 1 for height in flag_heights((3, CUBE[1]), flag)))
        base = flag_base(3, flag)
        self.assertEqual(base, whole_space(3))
        for number in (1, 4, 9, 16):
            self.assertLessEqual(max(block_cells(CUBE, base, flag_sides(3, flag, number))), 3 * number)
        self.assertEqual(fraction(sum(value(weight) * len(space) for space, weight in flag)), (3, 2))


if __name__ == "__main__":
    unittest.main()
