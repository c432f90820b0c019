"""Primes and groups [20]."""

import unittest
from fractions import Fraction
from itertools import combinations, product
from math import lcm, prod
from random import Random

from seenlots.errors import TooMany, Unfit
from seenlots.groups import all_elements, at_prime, best_subgroups, groups_beside, groups_hold, hom_image, is_group, is_hom, is_pbreak
from seenlots.groups import is_pspace, is_subgroup, least_number, made_by, part_worth, pbest, pbreak, pdims, pholds, pkinds, ppoints
from seenlots.groups import pspaces, pspan, residues, subgroups, worse_primes
from seenlots.holds import holds
from seenlots.powers import compared, powers_times
from seenlots.spaces import small_spaces
from tests.shares import BLIND, FEW, FRACTIONS, HALF, NONE, ONE, fraction, some_shares, value
from tests.sights import CRATE, EDGES, SLANT, some_sights
from tests.tools import ODD, agreed, check_thing, deep, dot

PRIMES = (2, 3, 5, 7)
CROSS = (2, (((1, 1),), ((1, -1),)))
SIGHTS = [CROSS, SLANT, CRATE] + list(EDGES) + some_sights(71, 20, 1) + some_sights(72, 20, 8) + BLIND[:4]
GROUPS = [(), (1,), (2,), (3,), (4,), (6,), (2, 2), (1, 3, 1), (2, 4), (3, 3), (4, 4), (2, 2, 2), (2, 3, 4), (6, 6), (36,), (2, 2, 3, 3), (2, 2, 2, 2),
          (2, 2, 2, 4), (1, 1, 1, 1), (9, 3), (5, 7), (8, 2), (3, 3, 3), (31,), (1, 36, 1)]


def told_points(prime, size, rows):
    """All sums of rows modulo a prime, by counting."""
    return {tuple(sum(times * row[place] for times, row in zip(several, rows)) % prime for place in range(size))
            for several in product(range(prime), repeat=len(rows))}


def told_dim(prime, several):
    """The dim of a space of so many tuples."""
    dim = 0
    while prime ** dim < len(several):
        dim += 1
    assert prime ** dim == len(several)
    return dim


def told_reduced(prime, size, thing):
    """Whether thing, a tuple of ROWS, is the reduced TABLE of a PSPACE, by the document's words."""
    leads = []
    for row in thing:
        if len(row) != size or not all(0 <= part < prime for part in row) or not any(row):
            return False
        leads.append(next(place for place, part in enumerate(row) if part))
        if row[leads[-1]] != 1:
            return False
    return leads == sorted(set(leads)) and all(row[lead] == int(own == lead) for own, row in zip(leads, thing) for lead in leads)


def told_pdims(prime, sight, space):
    """The dims of a PSPACE and of its images, by counting its tuples."""
    several = told_points(prime, sight[0], space)
    shown = [{tuple(dot(row, point) % prime for row in view) for point in several} for view in sight[1]]
    return told_dim(prime, several), tuple(told_dim(prime, some) for some in shown)


def told_excess(shares, kind):
    return kind[0] - sum(value(share) * part for share, part in zip(shares, kind[1], strict=True))


class Pspaces(unittest.TestCase):
    def test_all(self):
        for prime in PRIMES:
            for size, counts in ((1, [1, 1]), (2, [1, prime + 1, 1]), (3, [1, prime ** 2 + prime + 1, prime ** 2 + prime + 1, 1])):
                told = agreed(self, pspaces, prime, size)
                self.assertEqual([sum(len(space) == dim for space in told) for dim in range(size + 1)], counts)
                self.assertEqual(told, sorted(told, key=lambda space: (len(space), space)))
                self.assertEqual(len(set(told)), len(told))
                for space in told:
                    self.assertTrue(told_reduced(prime, size, space), space)
                    self.assertIs(is_pspace(prime, size, space), True)
                if prime ** size < 50:
                    self.assertEqual(len({frozenset(told_points(prime, size, space)) for space in told}), len(told))

    def test_is_pspace(self):
        for prime in (2, 3):
            rows = list(product(range(-1, prime + 1), repeat=2))
            for thing in [()] + [(row,) for row in rows] + list(product(rows, repeat=2)):
                self.assertIs(is_pspace(prime, 2, thing), told_reduced(prime, 2, thing), thing)
        check_thing(self, is_pspace, 5, 2, good=[(), ((1, 4),), ((0, 1),), ((1, 0), (0, 1))])
        check_thing(self, is_pspace, 7, 3, good=[((1, 0, 6), (0, 1, 5)), ((0, 0, 1),), ((1, 3, 0), (0, 0, 1))])
        for thing in (((2, 1),), ((1, 5),), ((1, -1),), ((0, 0),), ((1, 1), (0, 1)), ((0, 1), (1, 0)), ((1, 0), (1, 0)), ((1,),), deep(tuple, 100)):
            self.assertIs(is_pspace(5, 2, thing), False, thing)

    def test_pspan_and_points(self):
        some = Random(73)
        for _ in range(200):
            prime, size = some.choice(PRIMES), some.choice((1, 2, 3))
            most = some.choice((1, 10, 10 ** 12))
            rows = tuple(tuple(some.randint(-most, most) for _ in range(size)) for _ in range(some.randint(0, 4)))
            told = agreed(self, pspan, prime, rows)
            self.assertTrue(told_reduced(prime, size, told))
            self.assertEqual(agreed(self, ppoints, prime, size, told), tuple(sorted(told_points(prime, size, rows if rows else ()))))
        self.assertEqual((pspan(2, ((2, 4), (6, 8))), ppoints(7, 1, ()), ppoints(2, 3, ())), ((), ((0,),), ((0, 0, 0),)))
        self.assertEqual(len(ppoints(7, 3, ((1, 0, 0), (0, 1, 0), (0, 0, 1)))), 343)

    def test_at_prime(self):
        for size in (1, 2, 3):
            for space in small_spaces(size, 2):
                for prime in PRIMES:
                    told = agreed(self, at_prime, prime, space) if prime == 3 else at_prime(prime, space)
                    self.assertIs(is_pspace(prime, size, told), True)
                    self.assertEqual(len(told), len(space))
                    self.assertEqual(set(ppoints(prime, size, told)), told_points(prime, size, space))
        self.assertEqual(at_prime(2, ((1, 2, 0), (0, 4, 1))), ((1, 0, 0), (0, 0, 1)))


class Over(unittest.TestCase):
    def test_dims_and_kinds(self):
        for number, sight in enumerate(SIGHTS):
            for prime in PRIMES:
                several = pspaces(prime, sight[0])
                if len(several) > 40:
                    several = several[::9] + several[-2:]
                kinds = agreed(self, pkinds, prime, sight)
                self.assertEqual(kinds, tuple(sorted(set(kinds))))
                there = set()
                for space in several if prime < 7 or number % 3 == 0 else several[::3]:
                    kind = pdims(prime, sight, space)
                    self.assertEqual(kind, told_pdims(prime, sight, space), (prime, sight, space))
                    there.add(kind)
                self.assertLessEqual(there, set(kinds))
                self.assertEqual(kinds, tuple(sorted({pdims(prime, sight, space) for space in pspaces(prime, sight[0])})), (prime, sight))
        self.assertEqual(agreed(self, pdims, 2, CROSS, ((1, 1),)), (1, (0, 0)))

    def test_greater_sights(self):
        # Six VIEWS of three ROWS; and a size beyond the bounds.
        for sight in [sight for sight in some_sights(74, 40, 99, sizes=(3,), views=6) if len(sight[1]) > 4] + some_sights(75, 4, 1, sizes=(4,)):
            for prime in (2, 3, 7) if sight[0] == 3 else (2, 3):
                kinds = {space: pdims(prime, sight, space) for space in pspaces(prime, sight[0])}
                self.assertEqual(pkinds(prime, sight), tuple(sorted(set(kinds.values()))))
                shares = ((1, 3),) * len(sight[1])
                much, low, high = pbest(prime, sight, shares)
                best = [space for space, kind in kinds.items() if told_excess(shares, kind) == value(much)]
                self.assertEqual(much, fraction(max(told_excess(shares, kind) for kind in kinds.values())))
                self.assertEqual((low, high), (min(best, key=len), max(best, key=len)))

    def test_best(self):
        for number, sight in enumerate(SIGHTS):
            for shares in some_shares(number, sight, 1)[::3]:
                for prime in PRIMES:
                    kinds = {space: pdims(prime, sight, space) for space in pspaces(prime, sight[0])}
                    most = max(told_excess(shares, kind) for kind in kinds.values())
                    way = agreed if number % 4 == 0 and prime == 3 else lambda _, function, *args: function(*args)
                    much, low, high = way(self, pbest, prime, sight, shares)
                    self.assertEqual(much, fraction(most))
                    best = [space for space, kind in kinds.items() if told_excess(shares, kind) == most]
                    self.assertIn(low, best)
                    self.assertIn(high, best)
                    low_points, high_points = set(ppoints(prime, sight[0], low)), set(ppoints(prime, sight[0], high))
                    for space in best:
                        several = set(ppoints(prime, sight[0], space))
                        self.assertTrue(low_points <= several <= high_points)
                    # What two of them have in common, and what both make, is such again.
                    for one, other in list(combinations(best, 2))[:20]:
                        common = set(ppoints(prime, sight[0], one)) & set(ppoints(prime, sight[0], other))
                        self.assertIn(pspan(prime, tuple(common)), best)
                        self.assertIn(pspan(prime, one + other), best)
                    self.assertIs(way(self, pholds, prime, sight, shares), most <= 0)
                    bad = way(self, pbreak, prime, sight, shares)
                    self.assertIs(bad is None, most <= 0)
                    if bad is not None:
                        self.assertGreater(told_excess(shares, kinds[bad]), 0)
                        self.assertIs(is_pbreak(prime, sight, shares, bad), True)
                    for space in list(kinds)[::11]:
                        self.assertIs(is_pbreak(prime, sight, shares, space), told_excess(shares, kinds[space]) > 0)
                told = agreed(self, worse_primes, sight, shares)
                self.assertEqual(told, tuple(prime for prime in PRIMES if not pholds(prime, sight, shares)))
                if len(told) < 4:
                    self.assertTrue(holds(sight, shares))

    def test_no_set_of_tuples_breaks(self):
        # SHARES hold over a prime exactly if no set of tuples has more than the product of its images.
        for sight in (CROSS, SLANT, (2, (((1, 2),), ((2, 1),))), (2, (((2, 2), (0, 2)), ((0, 1),))), (1, (((2,),), ((3,),))), (2, ())):
            for prime in (2, 3):
                several = list(product(range(prime), repeat=sight[0]))
                if len(several) > 4:
                    lots = [lot for count in (1, 2, 3, 9) for lot in combinations(several, count)]
                else:
                    lots = [lot for count in range(1, 5) for lot in combinations(several, count)]
                shown = [[len({tuple(dot(row, point) % prime for row in view) for point in lot}) for view in sight[1]] for lot in lots]
                for shares in some_shares(3, sight, 3):
                    kept = all(compared(((len(lot), ONE),), tuple(zip(sizes, shares))) <= 0 for lot, sizes in zip(lots, shown))
                    self.assertIs(pholds(prime, sight, shares), kept, (sight, prime, shares))

    def test_few_primes(self):
        # SHARES that hold do so over all primes but those that make VIEWS less.
        for most in (2, 3, 5, 7):
            sight = (1, (((most,),),))
            self.assertEqual(worse_primes(sight, (ONE,)), (most,))
        self.assertEqual(worse_primes((1, (((210,),),)), (ONE,)), (2, 3, 5, 7))
        self.assertEqual(worse_primes((1, (((11,),),)), (ONE,)), ())
        self.assertEqual(worse_primes((1, (((4,),), ((9,),))), (HALF, HALF)), (2, 3))
        self.assertEqual(worse_primes((2, ()), ()), (2, 3, 5, 7))

    def test_things(self):
        check_thing(self, is_pbreak, 2, CROSS, (ONE, ONE), good=[((1, 1),)])
        check_thing(self, is_pbreak, 3, CROSS, (ONE, ONE))
        check_thing(self, is_pbreak, 3, CROSS, (ONE, HALF), good=[((1, 2),), ((1, 0), (0, 1))])
        for thing in ((), ((1, 1),), ((2, 1),), ((1, 5),), ((1, -1),), deep(tuple, 100)):
            self.assertIs(is_pbreak(3, CROSS, (ONE, HALF), thing), False)
        self.assertIsNone(pbreak(3, CROSS, (ONE, ONE)))


def told_sum(group, one, other):
    return tuple((part + more) % order for part, more, order in zip(one, other, group))


def told_closed(group, part):
    """Whether a part has the sum of any two of its members."""
    return all(told_sum(group, one, other) in part for one in part for other in part)


def told_made(group, part):
    """The least SUBGROUP, by adding up until nothing is new."""
    found = set(part)
    while True:
        more = found | {told_sum(group, one, other) for one in found for other in found}
        if more == found:
            return tuple(sorted(found))
        found = more


def told_subgroups(group):
    """All SUBGROUPS: each is made by at most as many members as there are orders above 1, and 4 of them at most."""
    every = list(product(*[range(order) for order in group]))
    found = {told_made(group, every[:1])}
    for _ in range(5):
        found |= {told_made(group, part + (one,)) for part in found for one in every if one not in part}
    return found


def told_image(hom, part):
    orders, rows = hom
    return tuple(sorted({tuple(dot(row, one) % order for order, row in zip(orders, rows)) for one in part}))


def some_hom(some, group):
    """A HOM of a group."""
    orders = some.choice(((), (2,), (4,), (3,), (6,), (2, 2), (1,), (12,), (3, 2), (9,), (2, 4), tuple(group)))
    rows = []
    for order in orders:
        rows.append(tuple(some.choice([part for part in range(order) if part * own % order == 0]) for own in group))
    return orders, tuple(rows)


def some_homs(some, group, many=4):
    return tuple(some_hom(some, group) for _ in range(some.randint(0, many)))


class Group(unittest.TestCase):
    def test_is_group(self):
        check_thing(self, is_group, good=[(), (1,), (36,), (2, 3, 6), (1, 1, 1, 1), (3, 3, 2, 2)])
        for thing in ((37,), (6, 7), (0,), (2, 0), (-1,), (1,) * 5, (2, 2, 2, 5), ((2,),), (True,), ("2",), deep(tuple, 100), (10 ** 30,)):
            self.assertIs(is_group(thing), False, thing)
        self.assertIs(agreed(self, is_group, (2, 3)), True)

    def test_is_hom(self):
        check_thing(self, is_hom, (2, 4), good=[((), ()), ((4,), ((2, 1),)), ((1,), ((0, 0),)), ((2, 8), ((1, 1), (4, 6)))])
        check_thing(self, is_hom, (), good=[((), ()), ((5,), ((),)), ((2, 3), ((), ()))])
        for thing in (((4,), ((1, 1),)), ((4,), ((2, 4),)), ((4,), ((-2, 1),)), ((4,), ()), ((), ((0, 0),)), ((37,), ((0, 0),)), ((0,), ((0, 0),)),
                      ((6, 7), ((0, 0), (0, 0))), ((4,), ((2, 1, 0),)), ((4,), ((2,),)), ((4,), ((2, 1),), ()), deep(tuple, 100), ((1,) * 5, ((0, 0),) * 5)):
            self.assertIs(is_hom((2, 4), thing), False, thing)
        some = Random(76)
        for group in GROUPS:
            for _ in range(5):
                hom = some_hom(some, group)
                self.assertIs(agreed(self, is_hom, group, hom), True)
                for order, row in zip(*hom):
                    # All that is added up to 0 in the GROUP is shown as 0.
                    self.assertTrue(all(own * part % order == 0 for own, part in zip(group, row)))

    def test_members(self):
        for group in GROUPS:
            told = agreed(self, all_elements, group)
            self.assertEqual(told, tuple(product(*[range(order) for order in group])))
            self.assertIs(is_subgroup(group, told), True)
            self.assertIs(is_subgroup(group, told[:1]), True)
        self.assertEqual(all_elements(()), ((),))

    def test_is_subgroup(self):
        for group in ((), (2,), (4,), (6,), (2, 2), (2, 3), (8,), (2, 4)):
            every = all_elements(group)
            for count in range(len(every) + 1):
                for part in combinations(every, count):
                    self.assertIs(is_subgroup(group, part), bool(part) and told_closed(group, part), (group, part))
        check_thing(self, is_subgroup, (2, 4), good=[((0, 0),), ((0, 0), (1, 2)), ((0, 0), (0, 2), (1, 0), (1, 2)), ((0, 0), (0, 1), (0, 2), (0, 3))])
        for thing in ((), ((1, 2), (0, 0)), ((0, 0), (0, 0)), ((0, 4),), ((0, -2), (0, 0)), ((0, 0), (2, 0)), ((0,),), ((0, 0, 0),), deep(tuple, 100)):
            self.assertIs(is_subgroup((2, 4), thing), False, thing)
        self.assertIs(agreed(self, is_subgroup, (2, 4), ((0, 0), (1, 2))), True)

    def test_subgroups(self):
        for group in GROUPS:
            told = agreed(self, subgroups, group) if len(group) < 3 else subgroups(group)
            self.assertEqual(told, sorted(told, key=lambda part: (len(part), part)))
            self.assertEqual(len(set(told)), len(told))
            self.assertTrue(all(is_subgroup(group, part) for part in told))
            if prod(group) < 28:
                self.assertEqual(set(told), told_subgroups(group))
        self.assertEqual([len(subgroups(group)) for group in ((2, 2, 2, 2), (2, 2, 2, 4), (3, 3, 3), (36,), (6, 6), (2, 2, 3, 3))], [67, 118, 28, 9, 30, 30])

    def test_made_by(self):
        some = Random(77)
        for group in GROUPS:
            every = all_elements(group)
            for _ in range(4):
                part = tuple(sorted(some.sample(every, min(len(every), some.randint(1, 4)))))
                told = agreed(self, made_by, group, part)
                self.assertEqual(told, told_made(group, part))
                self.assertIs(is_subgroup(group, told), True)

    def test_hom_image(self):
        some = Random(78)
        for group in GROUPS:
            every = all_elements(group)
            for _ in range(4):
                hom = some_hom(some, group)
                part = tuple(sorted(some.sample(every, some.randint(1, len(every)))))
                self.assertEqual(agreed(self, hom_image, group, hom, part), told_image(hom, part))
                self.assertIs(is_subgroup(hom[0], hom_image(group, hom, every)), True)
        self.assertEqual(hom_image((2,), ((), ()), ((0,), (1,))), ((),))


def told_worth(homs, shares, part, many):
    """The worth of a part to the power many, a Fraction."""
    result = Fraction(len(part)) ** many
    for hom, (top, bottom) in zip(homs, shares, strict=True):
        result /= Fraction(len(told_image(hom, part))) ** (top * many // bottom)
    return result


class Worth(unittest.TestCase):
    def test_part_worth(self):
        some = Random(79)
        for group in GROUPS:
            every = all_elements(group)
            homs = some_homs(some, group)
            shares = tuple(some.choice(FRACTIONS) for _ in homs)
            part = tuple(sorted(some.sample(every, some.randint(1, len(every)))))
            told = agreed(self, part_worth, group, homs, shares, part)
            self.assertEqual(told, ((len(part), ONE),) + tuple(
                (len(told_image(hom, part)), (-share[0], share[1])) for hom, share in zip(homs, shares)))

    def test_best(self):
        some = Random(80)
        for number in range(170):
            group = some.choice(GROUPS)
            homs = some_homs(some, group)
            shares = tuple(some.choice(FEW + [HALF, ONE]) for _ in homs)
            low, high = agreed(self, best_subgroups, group, homs, shares) if number % 3 == 0 else best_subgroups(group, homs, shares)
            many = lcm(1, *[bottom for _, bottom in shares])
            worths = {part: told_worth(homs, shares, part, many) for part in subgroups(group)}
            most = max(worths.values())
            best = [part for part, worth in worths.items() if worth == most]
            self.assertIn(low, best)
            self.assertIn(high, best)
            self.assertTrue(all(set(low) <= set(part) <= set(high) for part in best))
            for one, other in list(combinations(best, 2))[:12]:
                self.assertIn(tuple(sorted(set(one) & set(other))), best)
                self.assertIn(told_made(group, one + other), best)
            least = agreed(self, least_number, group, homs, shares)
            self.assertEqual(least, part_worth(group, homs, shares, low))
            self.assertIs(agreed(self, groups_hold, group, homs, shares), most == 1)
            self.assertEqual(compared(least, ()), 0 if most == 1 else 1)

    def test_no_part_is_worth_more(self):
        some = Random(81)
        for _ in range(40):
            group = some.choice([(2,), (4,), (2, 2), (6,), (7,), (8,), (2, 4), (3, 3), (1, 5)])
            homs = some_homs(some, group, 3)
            shares = tuple(some.choice(FEW) for _ in homs)
            many = lcm(1, *[bottom for _, bottom in shares])
            every = all_elements(group)
            most = max(told_worth(homs, shares, part, many) for count in range(1, len(every) + 1) for part in combinations(every, count))
            low, _ = best_subgroups(group, homs, shares)
            self.assertEqual(told_worth(homs, shares, low, many), most)

    def test_edges(self):
        self.assertEqual(best_subgroups((), (), ()), (((),), ((),)))
        self.assertEqual(best_subgroups((6,), (), ()), (all_elements((6,)), all_elements((6,))))
        self.assertEqual(best_subgroups((6,), (((), ()),), (ONE,)), (all_elements((6,)), all_elements((6,))))
        self.assertEqual(best_subgroups((6,), (((6,), ((1,),)),), (ONE,)), (((0,),), all_elements((6,))))
        self.assertEqual(best_subgroups((6,), (((6,), ((2,),)),), (ONE,)), (((0,), (3,)), all_elements((6,))))
        self.assertIs(groups_hold((1, 1), (), ()), True)
        self.assertIs(groups_hold((2,), (), ()), False)
        self.assertEqual(least_number((), (((), ()),), (HALF,)), ((1, ONE), (1, (-1, 2))))
        self.assertEqual(least_number((4,), (((4,), ((2,),)), ((), ())), (ONE, NONE)), ((2, ONE), (1, (-1, 1)), (1, NONE)))
        for group in ((2, 2, 2, 4), (6, 6), (36,), (4, 3, 3)):
            homs = tuple((((order,), (tuple(int(place == k) for k in range(len(group))),))) for place, order in enumerate(group))
            self.assertIs(groups_hold(group, homs, (ONE,) * len(group)), True)
            self.assertIs(groups_hold(group, homs, (ONE,) * (len(group) - 1) + ((11, 12),)), False)

    def test_sights_modulo_a_prime(self):
        # SHARES hold over a prime exactly if they do for the GROUP of its tuples.
        for number, sight in enumerate(SIGHTS):
            for prime in (2, 3, 5):
                if prime ** sight[0] <= 36 and all(prime ** len(view) <= 36 for view in sight[1]):
                    for shares in some_shares(number, sight, 1)[::4]:
                        group, homs = residues(sight, prime)
                        self.assertIs(groups_hold(group, homs, shares), pholds(prime, sight, shares))
                        low, high = best_subgroups(group, homs, shares)
                        _, least, most = pbest(prime, sight, shares)
                        self.assertEqual((low, high), (ppoints(prime, sight[0], least), ppoints(prime, sight[0], most)))


class Residues(unittest.TestCase):
    def test_residues(self):
        for sight in SIGHTS:
            size, views = sight
            for number in (1, 2, 3, 4, 5, 6, 7, 36, 37):
                fits = size <= 4 and number ** size <= 36 and len(views) <= 4 and all(len(view) <= 4 and number ** len(view) <= 36 for view in views)
                if not fits:
                    with self.assertRaises(TooMany):
                        agreed(self, residues, sight, number)
                    continue
                group, homs = agreed(self, residues, sight, number)
                self.assertEqual(group, (number,) * size)
                self.assertEqual(homs, tuple(((number,) * len(view), tuple(tuple(part % number for part in row) for row in view)) for view in views))
                self.assertTrue(is_group(group) and all(is_hom(group, hom) for hom in homs))
        self.assertEqual(residues((1, ((),)), 5), ((5,), (((), ()),)))
        for sight, number in (((3, ()), 4), ((1, ()), 37), ((1, (((1,), (2,), (3,)),)), 4), ((1, ((),) * 5), 2), ((1, ()), 10 ** 30)):
            with self.assertRaises(TooMany):
                agreed(self, residues, sight, number)

    def test_beside(self):
        some = Random(82)
        count = 0
        for _ in range(300):
            group, other = some.choice(GROUPS[:12]), some.choice(GROUPS[:9])
            homs, more = some_homs(some, group, 2), some_homs(some, other, 2)
            if len(homs) != len(more):
                with self.assertRaises(Unfit):
                    agreed(self, groups_beside, group, homs, other, more)
                continue
            orders = [group + other] + [hom[0] + also[0] for hom, also in zip(homs, more)]
            if any(len(some) > 4 or prod(some) > 36 for some in orders):
                with self.assertRaises(TooMany):
                    agreed(self, groups_beside, group, homs, other, more)
                continue
            both, told = agreed(self, groups_beside, group, homs, other, more)
            self.assertEqual(both, group + other)
            self.assertTrue(is_group(both) and all(is_hom(both, hom) for hom in told))
            for hom, also, joined in zip(homs, more, told):
                self.assertEqual(joined[0], hom[0] + also[0])
                for one in all_elements(both):
                    shown = told_image(hom, [one[:len(group)]])[0] + told_image(also, [one[len(group):]])[0]
                    self.assertEqual(told_image(joined, [one]), (shown,))
            # The least number of both is the product of theirs.
            shares = tuple(some.choice(FEW) for _ in homs)
            least = powers_times(least_number(group, homs, shares), least_number(other, more, shares))
            self.assertEqual(compared(least_number(both, told, shares), least), 0)
            count += 1
        self.assertGreater(count, 40)
        with self.assertRaises(Unfit):
            agreed(self, groups_beside, (36,), (), (36,), (((), ()),))
        with self.assertRaises(TooMany):
            agreed(self, groups_beside, (36,), (), (2,), ())
        self.assertEqual(groups_beside((), (), (3,), ()), ((3,), ()))
        self.assertEqual(groups_beside((2,), (((2,), ((1,),)),), (3,), (((3,), ((2,),)),)), ((2, 3), (((2, 3), ((1, 0), (0, 2))),)))

    def test_odd_things(self):
        for thing in ODD:
            self.assertIn(is_hom((2, 4), thing), (True, False))
            self.assertIs(is_subgroup((2, 4), thing), thing == ((0, 0),) and type(thing) is tuple)


if __name__ == "__main__":
    unittest.main()
