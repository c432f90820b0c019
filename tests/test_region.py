"""All SHARES that hold [13]."""

import unittest
from fractions import Fraction
from itertools import combinations, product
from random import Random

from seenlots.errors import NoPaper, NoView, Unfit
from seenlots.holds import enough_share, holds
from seenlots.region import as_far, bearing_lots, corners, even_share, is_kind_weights, is_mix_of, kind_weights, leaned, least_of_view
from seenlots.region import least_sum, mix_of, tight_kinds
from tests.shares import BLIND, FEW, GREAT, HALF, NONE, ONE, ROOM, THIRD, fraction, is_blind, kinds_of, sights, some_shares
from tests.shares import told_corners, told_excess, told_holds, value
from tests.sights import CRATE, SLANT
from tests.tools import ODD, agreed, check_thing, deep, rank

SIGHTS = sights(331, 15)
SEEING = [sight for sight in SIGHTS if not is_blind(sight)]


def planes_of(sight):
    """Pairs (ROW, least) that SHARES have to show at least: from 0 to 1, and enough for all kinds."""
    count = len(sight[1])
    units = [tuple(int(k == place) for k in range(count)) for place in range(count)]
    kinds = [(row, dim) for dim, row in kinds_of(sight) if dim]
    # A kind with a row that is nowhere less than another's asks for no more.
    hard = [(row, dim) for row, dim in kinds if not any(
        dim == more and other != row and all(a <= b for a, b in zip(other, row)) for other, more in kinds)]
    return [(unit, 0) for unit in units] + [(tuple(-part for part in unit), -1) for unit in units] + hard


def some_heights(seed, sight, many=4):
    some = Random(seed)
    count = len(sight[1])
    found = [((0, 1),) * count, (ONE,) * count, ((1000, 1),) * count, ((1000, 11),) * count]
    for _ in range(many):
        found.append(tuple(some.choice(((0, 1), ONE, (2, 1), (3, 2), (5, 12), (7, 1))) for _ in range(count)))
        found.append(tuple(fraction(Fraction(some.randint(0, 1000), some.randint(1, 12))) for _ in range(count)))
    return found


def total(heights, shares):
    return sum(value(height) * value(share) for height, share in zip(heights, shares, strict=True))


class Corners(unittest.TestCase):
    def test_by_all_choices(self):
        for sight in SIGHTS:
            if len(sight[1]) <= 3:
                found = agreed(self, corners, sight)
                self.assertEqual(found, tuple(sorted(told_corners(planes_of(sight), len(sight[1])) if not is_blind(sight) else ())))
        for sight in ROOM[1:4] + GREAT[:2]:
            self.assertEqual(set(corners(sight)), told_corners(planes_of(sight), 4))

    def test_each_is_one(self):
        for sight in SEEING + [sight for sight in GREAT if not is_blind(sight)]:
            planes = planes_of(sight)
            found = corners(sight)
            self.assertEqual(list(found), sorted(set(found)))
            for shares in found:
                self.assertTrue(told_holds(sight, shares))
                tight = [row for row, least in planes if sum(value(share) * part for share, part in zip(shares, row)) == least]
                # No way to go on, there and back, without leaving a plane.
                self.assertEqual(rank(tight), len(shares))

    def test_no_mix_of_others(self):
        for sight in (SLANT, CRATE) + tuple(ROOM[:2]):
            found = corners(sight)
            for shares in found:
                for one, other in combinations(found, 2):
                    if shares not in (one, other):
                        middle = tuple(fraction((value(a) + value(b)) / 2) for a, b in zip(one, other))
                        self.assertNotEqual(shares, middle)
                        self.assertIs(holds(sight, middle), True)

    def test_edges(self):
        for sight in BLIND:
            self.assertEqual(agreed(self, corners, sight), ())
        self.assertEqual(corners((1, (((2,),),))), ((ONE,),))
        self.assertEqual(corners((1, (((2,),), ((0,),)))), ((ONE, NONE), (ONE, ONE)))
        self.assertEqual(corners((1, (((2,),), ((3,),)))), ((NONE, ONE), (ONE, NONE), (ONE, ONE)))
        self.assertEqual(corners((2, (((1, 0), (1, 1)), ()))), ((ONE, NONE), (ONE, ONE)))


class Mixes(unittest.TestCase):
    def check_mix(self, sight, shares, mix):
        found = corners(sight)
        self.assertTrue(all(corner in found and value(much) > 0 for much, corner in mix))
        self.assertEqual(sum(value(much) for much, _ in mix), 1)
        for place, share in enumerate(shares):
            self.assertEqual(sum(value(much) * value(corner[place]) for much, corner in mix), value(share))

    def test_there_exactly_if_they_hold(self):
        for number, sight in enumerate(SIGHTS):
            for shares in some_shares(number + 120, sight, 3):
                if not told_holds(sight, shares):
                    with self.assertRaises(NoPaper):
                        mix_of(sight, shares)
                    continue
                mix = mix_of(sight, shares)
                self.check_mix(sight, shares, mix)
                self.assertIs(is_mix_of(sight, shares, mix), True)
                self.assertIs(is_mix_of(sight, shares, mix[::-1]), True)
        for sight in (SLANT, CRATE, ROOM[3]):
            for shares in some_shares(332, sight, 1)[::3]:
                try:
                    mix = agreed(self, mix_of, sight, shares)
                except NoPaper:
                    self.assertFalse(holds(sight, shares))
                else:
                    agreed(self, is_mix_of, sight, shares, mix)

    def test_mixes_of_corners_hold(self):
        some = Random(333)
        for sight in SEEING:
            found = corners(sight)
            for _ in range(3):
                chosen = [some.choice(found) for _ in range(3)]
                much = ((1, 6), THIRD, HALF)
                shares = tuple(fraction(sum(value(part) * value(corner[k]) for part, corner in zip(much, chosen)))
                               for k in range(len(sight[1])))
                self.assertTrue(told_holds(sight, shares))
                self.assertIs(is_mix_of(sight, shares, tuple(zip(much, chosen))), True)

    def test_things(self):
        first, second, third, whole = corners(SLANT)
        shares = (ONE, ONE, HALF)
        good = [((HALF, third), (HALF, whole)), ((HALF, whole), (HALF, third)), ((HALF, whole), ((1, 4), third), ((1, 4), third))]
        check_thing(self, is_mix_of, SLANT, shares, good=good)
        wrong = [(), ((ONE, whole),), ((ONE, shares),), ((HALF, third), (HALF, whole), (NONE, whole)), ((HALF, third), (HALF, first)),
                 (((3, 2), whole), ((-1, 2), third)), ((HALF, third),), ((HALF, third, whole),), ((HALF, (ONE, ONE)),), deep(tuple, 100),
                 ((HALF, deep(tuple, 98)),), ((HALF, third), ((2, 4), whole)), ((HALF, (ONE, ONE, HALF)), (HALF, (ONE, ONE, HALF)))]
        for thing in wrong:
            self.assertIs(is_mix_of(SLANT, shares, thing), False, thing)
        for sight in BLIND:
            for thing in ODD:
                self.assertIs(is_mix_of(sight, (ONE,) * len(sight[1]), thing), False)
        with self.assertRaises(NoPaper):
            agreed(self, mix_of, (2, ()), ())


class Sums(unittest.TestCase):
    def test_least_sum(self):
        for number, sight in enumerate(SEEING):
            found = sorted(corners(sight))
            for heights in some_heights(number, sight, 2):
                least = min(total(heights, shares) for shares in found)
                first = [shares for shares in found if total(heights, shares) == least][0]
                self.assertEqual(least_sum(sight, heights), (fraction(least), first))
                # Nor is it less for other SHARES that hold.
                for shares in some_shares(number, sight, 1)[::4]:
                    if holds(sight, shares):
                        self.assertGreaterEqual(total(heights, shares), least)
        agreed(self, least_sum, CRATE, (ONE, ONE, (5, 1)))
        agreed(self, least_sum, ROOM[3], ((1000, 7), (5, 12), NONE, (3, 2)))

    def told_weights(self, sight, heights, thing):
        """Whether a set of pairs (kind, weight) shows the least sum, by the document's words."""
        kinds = [kind for kind, _ in thing]
        if len(set(kinds)) < len(kinds) or list(thing) != sorted(thing) or not set(kinds) <= set(kinds_of(sight)):
            return False
        if any(dim < 1 or value(weight) <= 0 for (dim, _), weight in thing):
            return False
        sums = [sum(value(weight) * row[place] for (_, row), weight in thing) for place in range(len(sight[1]))]
        if any(part > value(height) for part, height in zip(sums, heights)):
            return False
        return sum(value(weight) * dim for (dim, _), weight in thing) == value(least_sum(sight, heights)[0])

    def test_kind_weights(self):
        for number, sight in enumerate(SEEING):
            for heights in some_heights(number, sight, 3):
                found = kind_weights(sight, heights)
                # With it both sums are equal: it shows that no SHARES that hold have less.
                self.assertTrue(self.told_weights(sight, heights, found), (sight, heights, found))
                self.assertIs(is_kind_weights(sight, heights, found), True)
        for sight in (SLANT, CRATE, ROOM[3]):
            for heights in some_heights(334, sight, 1)[::2]:
                agreed(self, is_kind_weights, sight, heights, agreed(self, kind_weights, sight, heights))
        self.assertEqual(kind_weights(SLANT, (NONE, NONE, NONE)), ())

    def test_is_kind_weights(self):
        some = Random(335)
        counts = [0, 0]
        for sight in (SLANT, CRATE, ROOM[4], (1, (((2,),), ((0,),)))):
            kinds = kinds_of(sight)
            for heights in product((NONE, ONE, (2, 1)), repeat=len(sight[1])):
                for _ in range(12):
                    chosen = some.choices(kinds[1:], k=some.choice((0, 1, 1, 2, 3)))
                    thing = tuple((kind, some.choice((HALF, ONE))) for kind in (sorted(chosen) if some.random() < 0.9 else chosen))
                    expected = self.told_weights(sight, heights, thing)
                    counts[expected] += 1
                    self.assertIs(is_kind_weights(sight, heights, thing), expected, (sight, heights, thing))
        self.assertGreater(min(counts), 20)
        edges = ((1, (0, 1, 1)), ONE), ((1, (1, 0, 1)), ONE)
        check_thing(self, is_kind_weights, CRATE, (ONE, ONE, (5, 1)), good=[edges, (((2, (1, 1, 2)), ONE),)])
        for thing in (edges[::-1], edges[:1], edges + edges, edges[:1] * 2, ((edges[0][0], (2, 1)),), (((0, (0, 0, 0)), ONE),) + edges,
                      (((1, (0, 0, 1)), ONE),), (((1, (0, 1)), ONE),), deep(tuple, 100), ((deep(tuple, 98), ONE),)):
            self.assertIs(is_kind_weights(CRATE, (ONE, ONE, (5, 1)), thing), False, thing)

    def test_no_paper(self):
        for sight in BLIND:
            heights = (ONE,) * len(sight[1])
            for function in (least_sum, kind_weights):
                with self.assertRaises(NoPaper):
                    agreed(self, function, sight, heights)
            for thing in ODD + ((), (((1, (0,)), ONE),)):
                with self.assertRaises(NoPaper):
                    is_kind_weights(sight, heights, thing)


class Least(unittest.TestCase):
    def test_least_of_view(self):
        for sight in SEEING:
            found = corners(sight)
            for number in range(len(sight[1])):
                self.assertEqual(value(least_of_view(sight, number)), min(value(shares[number]) for shares in found))
        agreed(self, least_of_view, CRATE, 1)
        self.assertEqual(agreed(self, least_of_view, (2, (((1, 0),), ((1, 1),))), 1), ONE)

    def test_no_view_first(self):
        for sight in [SLANT, CRATE] + BLIND:
            for number in (-1, len(sight[1]), 10 ** 20):
                with self.assertRaises(NoView) as caught:
                    agreed(self, least_of_view, sight, number)
                self.assertEqual(caught.exception.number, number)
            if sight in BLIND and sight[1]:
                with self.assertRaises(NoPaper):
                    agreed(self, least_of_view, sight, 0)

    def test_even_share(self):
        for sight in SEEING:
            even = value(even_share(sight))
            self.assertTrue(told_holds(sight, (fraction(even),) * len(sight[1])))
            self.assertFalse(told_holds(sight, (fraction(even - Fraction(1, 10 ** 6)),) * len(sight[1])))
        self.assertEqual(agreed(self, even_share, CRATE), HALF)
        self.assertEqual(even_share((1, (((2,),), ((0,),)))), ONE)
        for sight in BLIND:
            with self.assertRaises(NoPaper):
                agreed(self, even_share, sight)


class Tight(unittest.TestCase):
    def test_tight_kinds(self):
        for number, sight in enumerate(SIGHTS):
            for shares in some_shares(number + 150, sight, 2):
                if not told_holds(sight, shares):
                    with self.assertRaises(Unfit):
                        tight_kinds(sight, shares)
                else:
                    expected = tuple(kind for kind in kinds_of(sight) if kind[0] and told_excess(shares, kind) == 0)
                    self.assertEqual(tight_kinds(sight, shares), expected)
        agreed(self, tight_kinds, CRATE, (ONE, HALF, HALF))

    def test_leaned(self):
        tiny = Fraction(1, 10 ** 6)
        for number, sight in enumerate(SIGHTS):
            for shares in some_shares(number + 180, sight, 2)[::2]:
                if not told_holds(sight, shares):
                    with self.assertRaises(Unfit):
                        leaned(sight, shares)
                    continue
                found = leaned(sight, shares)
                self.assertTrue(told_holds(sight, found))
                for place, share in enumerate(found):
                    ahead = found[:place + 1] + shares[place + 1:]
                    self.assertTrue(told_holds(sight, ahead))
                    self.assertEqual(enough_share(sight, ahead, place), share)
                    if value(share) > 0:
                        less = found[:place] + (fraction(max(value(share) - tiny, Fraction(0))),) + shares[place + 1:]
                        self.assertFalse(told_holds(sight, less))
        agreed(self, leaned, CRATE, (ONE, HALF, ONE))
        self.assertEqual(agreed(self, leaned, (1, (((3,),), ((0,),), ((1,),))), (HALF, HALF, HALF)), (HALF, NONE, HALF))

    def test_as_far(self):
        tiny = Fraction(1, 10 ** 9)

        def between(one, other, times):
            return tuple(fraction((1 - times) * value(a) + times * value(b)) for a, b in zip(one, other))

        for number, sight in enumerate(SIGHTS):
            several = some_shares(number + 210, sight, 2)
            for one, other in zip(several[::2], several[::-1]):
                if not told_holds(sight, one):
                    with self.assertRaises(Unfit):
                        as_far(sight, one, other)
                    continue
                far = value(as_far(sight, one, other))
                self.assertTrue(0 <= far <= 1)
                self.assertTrue(told_holds(sight, between(one, other, far)))
                self.assertTrue(far == 1 or not told_holds(sight, between(one, other, far + tiny)))
                self.assertIs(far == 1, told_holds(sight, other))
        agreed(self, as_far, SLANT, (ONE, ONE, ONE), (NONE, HALF, NONE))

    def test_unfit(self):
        for sight in [SLANT] + BLIND:
            shares = (NONE,) * len(sight[1])
            for function in (tight_kinds, leaned):
                with self.assertRaises(Unfit):
                    agreed(self, function, sight, shares)
            with self.assertRaises(Unfit):
                agreed(self, as_far, sight, shares, (ONE,) * len(sight[1]))


class Bearing(unittest.TestCase):
    def test_bearing_lots(self):
        for sight in SIGHTS:
            size, views = sight
            bear = [some for count in range(len(views) + 1) for some in combinations(range(len(views)), count)
                    if told_holds(sight, tuple(ONE if k in some else NONE for k in range(len(views))))]
            expected = [some for some in bear if not any(set(less) < set(some) for less in bear)]
            self.assertEqual(bearing_lots(sight), tuple(sorted(expected)), sight)
        agreed(self, bearing_lots, CRATE)
        for sight in BLIND:
            self.assertEqual(agreed(self, bearing_lots, sight), ())
        self.assertEqual(bearing_lots((2, (((1, 0), (0, 1)), ((1, 1),), ((1, 2),)))), ((0,), (1, 2)))


class Many(unittest.TestCase):
    def test_many_end_soon(self):
        some = Random(336)
        for sight in [sight for sight in GREAT if not is_blind(sight)] + ROOM * 5:
            found = corners(sight)
            for _ in range(4):
                heights = tuple(some.choice(((0, 1), ONE, (1000, 7), (999, 11))) for _ in sight[1])
                least, shares = least_sum(sight, heights)
                self.assertIn(shares, found)
                self.assertEqual(sum(value(weight) * kind[0] for kind, weight in kind_weights(sight, heights)), value(least))
                more = tuple(max(share, some.choice(FEW), key=value) for share in shares)
                self.assertIs(is_mix_of(sight, more, mix_of(sight, more)), True)
                self.assertTrue(tight_kinds(sight, leaned(sight, more)))
                self.assertEqual(as_far(sight, more, shares), ONE)


if __name__ == "__main__":
    unittest.main()
