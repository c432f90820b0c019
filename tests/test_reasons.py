"""Reasons [11]."""

import unittest
from fractions import Fraction
from random import Random

from seenlots.errors import NoPaper, Unfit
from seenlots.holds import enough_times, holds, in_parts
from seenlots.reasons import depth, is_leaf, is_reason, leaves_in, mixed, nodes, parted_by, raised, reason, split_at
from seenlots.spaces import is_space, whole_space, within, zeros_of
from seenlots.views import beyond, inside
from tests.shares import BLIND, FEW, FRACTIONS, GREAT, HALF, NONE, ONE, ROOM, SPACES, THIRD, fraction, is_blind, sights
from tests.shares import some_shares, told_holds, value, values
from tests.sights import CRATE, SLANT
from tests.test_views import seen
from tests.tools import ODD, agreed, check_thing, deep, dot, rank, spoiled, times_rows

SIGHTS = sights(311, 12)
LEAF = ("leaf",)
TREE = ("split", ((1, -1),), ("mix", ((HALF, (ONE, NONE, NONE), LEAF), (HALF, (NONE, ONE, NONE), LEAF))), LEAF)
SHARES = (HALF, HALF, ONE)


def each():
    """SIGHTS with SHARES, many of them just enough."""
    for number, sight in enumerate(SIGHTS):
        for shares in some_shares(number + 50, sight, 2):
            yield sight, shares
    some = Random(312)
    for sight in [sight for sight in GREAT[:30] + ROOM if not is_blind(sight)]:
        shares = tuple(some.choice(FRACTIONS[1:]) for _ in sight[1])
        times = min(value(enough_times(sight, shares)), 1 / max(values(shares)))
        yield sight, tuple(fraction(times * value(share)) for share in shares)


def solutions(point_rows, rows):
    """Of how many dims the multiples of point_rows are that come of rows, with all ways to do so told apart."""
    together = [list(row) for row in point_rows] + [list(row) for row in rows]
    return len(together) - rank(together)


def is_told_leaf(views, shares, lifts, lower):
    """Whether of the POINTS of lifts, but for those of lower, the VIEWS with share 1 show 0s (as of lower) of none."""
    chosen = [view for view, share in zip(views, shares) if share == ONE]
    # One column block for each VIEW: what it shows of each lift, and of each ROW of lower, each VIEW by itself.
    table = [[part for view in chosen for part in seen(view, point)] for point in lifts]
    own = 0
    for number, view in enumerate(chosen):
        for point in lower:
            table.append([part if k == number else 0 for k, other in enumerate(chosen) for part in seen(other, point)])
        own += len(lower) - rank([seen(view, point) for point in lower])
    return len(table) - rank(table) == own


def told_reason(views, shares, lifts, lower, thing):
    """Whether thing is a REASON, in the SIGHT of the POINTS that come of lifts, two being one if lower tells them apart.

    Counts of the SIGHT asked tell how often each of lifts is taken; all is worked out in the SIGHT handed in at first.
    """
    if thing[0] == "leaf":
        return is_told_leaf(views, shares, lifts, lower)
    if thing[0] == "mix":
        parts = thing[1]
        total = [sum(value(much) * value(told[k]) for much, told, _ in parts) for k in range(len(shares))]
        if sum(value(much) for much, _, _ in parts) != 1 or any(part > value(share) for part, share in zip(total, shares)):
            return False
        return all(value(much) > 0 and told_reason(views, told, lifts, lower, given) for much, told, given in parts)
    _, space, within_it, past = thing
    size = len(lifts)
    if not is_space(space, size) or len(space) in (0, size):
        return False
    width = len(lifts[0])
    upper = [times_rows(times, lifts, width) for times in space]
    told = zeros_of(space, size)
    # Of each number that is told BEYOND the space a POINT of which just it is 1: some ROWS, not in the space.
    outer = [times_rows(times, lifts, width) for times in told_points(told, size)]
    return told_reason(views, shares, upper, lower, within_it) and told_reason(views, shares, outer, list(lower) + upper, past)


def told_points(told, size):
    """For each of the ROWS told a tuple of Fractions of which it shows 1, the others 0."""
    found = []
    for number in range(len(told)):
        # The one among the sums of multiples of the ROWS themselves: their table of products has an inverse.
        products = [[Fraction(dot(row, other)) for other in told] for row in told]
        times = told_inverse(products, number)
        found.append(tuple(sum(much * row[place] for much, row in zip(times, told)) for place in range(size)))
    return found


def told_inverse(table, number):
    """The solution of the equations of table with 1 for this one, 0 for the others."""
    left = [list(row) + [Fraction(int(k == number))] for k, row in enumerate(table)]
    for place in range(len(left)):
        usable = next(k for k in range(place, len(left)) if left[k][place])
        left[place], left[usable] = left[usable], left[place]
        left[place] = [part / left[place][place] for part in left[place]]
        for k in range(len(left)):
            if k != place:
                left[k] = [part - left[k][place] * less for part, less in zip(left[k], left[place])]
    return [row[-1] for row in left]


def judged(sight, shares, thing):
    """Whether thing is a REASON, worked out in the SIGHT itself."""
    return told_reason(sight[1], shares, list(whole_space(sight[0])), [], thing)


def told_nodes(given):
    if given[0] == "leaf":
        return (1, 0, 0), 1
    inner = [part[2] for part in given[1]] if given[0] == "mix" else given[2:]
    counts, depths = zip(*[told_nodes(part) for part in inner])
    own = (0, 1, 0) if given[0] == "mix" else (0, 0, 1)
    return tuple(sum(some) + more for some, more in zip(zip(*counts), own)), 1 + max(depths)


class Reason(unittest.TestCase):
    def test_there_exactly_if_they_hold(self):
        for sight, shares in each():
            if not told_holds(sight, shares):
                with self.assertRaises(NoPaper):
                    reason(sight, shares)
                continue
            given = reason(sight, shares)
            self.assertTrue(judged(sight, shares, given), (sight, shares, given))
            self.assertIs(is_reason(sight, shares, given), True)
            self.assertEqual(reason(sight, shares), given)
            self.assertEqual((nodes(given), depth(given)), told_nodes(given))
            leaves = leaves_in(sight, shares, given)
            self.assertEqual(len(leaves), nodes(given)[0])
            self.assertEqual(sum(value(much) * told[0] for much, told, _ in leaves), sight[0])
            self.assertTrue(all(is_leaf(told, own) for _, told, own in leaves))

    def test_ways(self):
        for sight, shares in list(each())[::7]:
            if holds(sight, shares):
                given = agreed(self, reason, sight, shares)
                agreed(self, is_reason, sight, shares, given)
                agreed(self, nodes, given)
                agreed(self, depth, given)
                agreed(self, parted_by, sight, given)
                agreed(self, leaves_in, sight, shares, given)
            else:
                with self.assertRaises(NoPaper):
                    agreed(self, reason, sight, shares)
            agreed(self, is_leaf, sight, shares)

    def test_is_leaf(self):
        for sight, shares in each():
            rows = [row for view, share in zip(sight[1], shares) if share == ONE for row in view]
            self.assertIs(is_leaf(sight, shares), rank(rows) == sight[0])
        for sight, shares, expected in ((SLANT, (ONE, NONE, ONE), True), (SLANT, (ONE, NONE, (11, 12)), False), ((2, ()), (), False),
                                        ((1, (((7,),),)), (ONE,), True), ((1, (((0,),),)), (ONE,), False), ((1, ((),)), (ONE,), False)):
            self.assertIs(agreed(self, is_leaf, sight, shares), expected)
            self.assertIs(is_reason(sight, shares, LEAF), expected)

    def test_wrong_shares(self):
        # A REASON of some SHARES is none of lesser ones that do not hold.
        some = Random(313)
        for sight, shares in list(each())[::2]:
            if holds(sight, shares):
                given = reason(sight, shares)
                for number, share in enumerate(shares):
                    less = shares[:number] + (fraction(value(share) * Fraction(some.randint(0, 11), 12)),) + shares[number + 1:]
                    self.assertIs(is_reason(sight, less, given), judged(sight, less, given))
                    if not holds(sight, less):
                        self.assertIs(is_reason(sight, less, given), False)
                    more = shares[:number] + (ONE,) + shares[number + 1:]
                    self.assertIs(is_reason(sight, more, given), judged(sight, more, given))

    def test_trees_by_chance(self):
        some = Random(314)

        def tree(size, many, left):
            kind = some.choice(("leaf", "mix", "split")) if left else "leaf"
            if kind == "mix":
                shares = [tuple(some.choice((NONE, HALF, ONE, ONE)) for _ in range(many)) for _ in range(2)]
                return ("mix", ((THIRD, shares[0], tree(size, many, left - 1)), ((2, 3), shares[1], tree(size, many, left - 1))))
            if kind == "split" and size > 1:
                space = some.choice([space for space in SPACES[size][::3] if 0 < len(space) < size])
                return ("split", space, tree(len(space), many, left - 1), tree(size - len(space), many, left - 1))
            return LEAF

        counts = [0, 0]
        for _ in range(900):
            sight = some.choice(ROOM + [SLANT, CRATE, (2, (((1, 0),), ((0, 1),), ((1, 0), (0, 1))))])
            many = len(sight[1])
            thing = tree(sight[0], many, 3)
            shares = tuple(some.choice((HALF, (2, 3), ONE, ONE)) for _ in range(many))
            expected = judged(sight, shares, thing)
            counts[expected] += 1
            self.assertIs(is_reason(sight, shares, thing), expected, (sight, shares, thing))
        self.assertGreater(min(counts), 50)

    def test_things(self):
        check_thing(self, is_reason, SLANT, SHARES, good=[TREE, ("mix", ((ONE, SHARES, TREE),))])
        check_thing(self, is_reason, SLANT, (ONE, ONE, NONE), good=[LEAF])
        check_thing(self, is_reason, (1, (((2,),), ())), (ONE, THIRD), good=[LEAF, ("mix", ((ONE, (ONE, NONE), LEAF),))])
        both = TREE[2]
        wrong = [
            LEAF, ("Leaf",), ("leaf", ()), ("leaf", "leaf"), ("mix",), ("mix", ()), ("mix", (), ()), ("split",), "leaf", ("split", ((1, -1),), both),
            ("split", ((-1, 1),), both, LEAF), ("split", ((2, -2),), both, LEAF), ("split", (), both, LEAF), ("split", whole_space(2), LEAF, LEAF),
            ("split", ((1, -1),), LEAF, LEAF), ("split", ((1, 0),), both, LEAF), ("split", ((1, -1),), both, LEAF, LEAF),
            ("mix", ((HALF, SHARES, TREE),)), ("mix", ((HALF, SHARES, TREE), (HALF, (ONE, HALF, ONE), TREE))),
            ("mix", ((HALF, SHARES, TREE), (HALF, SHARES, TREE), (NONE, SHARES, TREE))),
            ("mix", (((3, 2), SHARES, TREE), ((-1, 2), SHARES, TREE))), ("mix", (((2, 2), SHARES, TREE),)),
            ("mix", ((ONE, SHARES[:2], TREE),)), ("mix", ((ONE, SHARES + (NONE,), TREE),)), ("mix", ((ONE, (HALF, HALF, (3, 2)), TREE),)),
            ("mix", ((ONE, ((-1, 2), HALF, ONE), TREE),)), ("mix", ((ONE, (HALF, (2, 4), ONE), TREE),)),
            deep(tuple, 100), deep(list, 100), ("mix", deep(tuple, 99)), ("split", deep(tuple, 99), LEAF, LEAF), ("mix", ((ONE, SHARES, deep(tuple, 97)),)),
        ]
        for thing in wrong:
            self.assertIs(is_reason(SLANT, SHARES, thing), False, thing)
        for thing in ODD:
            self.assertIs(is_reason((1, ()), (), thing), False)

    def test_deep(self):
        # A hundred levels: mixes in mixes, three levels each.
        given = TREE
        for _ in range(31):
            given = ("mix", ((ONE, SHARES, given),))
        self.assertIs(is_reason(SLANT, SHARES, given), True)
        self.assertEqual((nodes(given), depth(given)), ((3, 32, 1), 34))
        self.assertEqual(parted_by(SLANT, given), (((1, -1),),))
        self.assertEqual(len(leaves_in(SLANT, SHARES, given)), 3)
        for _ in range(31):
            given = given[1][0][2]
        self.assertEqual(given, TREE)


class Split(unittest.TestCase):
    def test_split_at(self):
        some = Random(315)
        for sight, shares in list(each())[::2]:
            size = sight[0]
            for space in some.sample(SPACES[size], min(5, len(SPACES[size]))):
                if len(space) in (0, size):
                    with self.assertRaises(Unfit):
                        split_at(sight, shares, space)
                elif not (told_holds(inside(sight, space), shares) and told_holds(beyond(sight, space), shares)):
                    with self.assertRaises(NoPaper):
                        split_at(sight, shares, space)
                else:
                    self.assertEqual(in_parts(sight, shares, space), (True, True))
                    given = split_at(sight, shares, space)
                    self.assertEqual(given[:2], ("split", space))
                    self.assertTrue(judged(sight, shares, given))
                    self.assertIs(is_reason(sight, shares, given), True)
        agreed(self, split_at, SLANT, SHARES, ((1, -1),))
        agreed(self, split_at, CRATE, (ONE, HALF, HALF), ((1, 0, 0),))

    def test_unfit_first(self):
        # Ahead of NoPaper: these SHARES do not hold in any part.
        for sight in (SLANT, CRATE, (1, ()), (3, ((),))):
            for space in ((), whole_space(sight[0])):
                with self.assertRaises(Unfit):
                    agreed(self, split_at, sight, (NONE,) * len(sight[1]), space)
        with self.assertRaises(NoPaper):
            agreed(self, split_at, SLANT, (NONE, NONE, NONE), ((1, 0),))


class Raised(unittest.TestCase):
    def test_raised(self):
        some = Random(316)
        for sight, shares in list(each())[::3]:
            if holds(sight, shares):
                given = reason(sight, shares)
                for other in (shares, (ONE,) * len(shares), tuple(max(share, some.choice(FEW), key=value) for share in shares)):
                    more = raised(sight, shares, given, other)
                    self.assertEqual(more, ("mix", ((ONE, shares, given),)))
                    self.assertIs(is_reason(sight, other, more), True)
        agreed(self, raised, SLANT, SHARES, TREE, (HALF, ONE, ONE))

    def test_unfit(self):
        for given, other in ((LEAF, SHARES), (TREE, (HALF, HALF, (11, 12))), (TREE, ((5, 12), ONE, ONE)), (("mix", ()), (ONE,) * 3),
                             (LEAF, (NONE,) * 3)):
            with self.assertRaises(Unfit):
                agreed(self, raised, SLANT, SHARES, given, other)


class Mixed(unittest.TestCase):
    def test_mixed(self):
        some = Random(317)
        for sight in ROOM + [SLANT, CRATE]:
            held = [shares for shares in some_shares(318, sight, 4) if holds(sight, shares)]
            for much in ((ONE,), (HALF, HALF), (THIRD, (1, 6), HALF), ((1, 12), (11, 12))):
                parts = tuple((part, shares, reason(sight, shares)) for part in much for shares in (some.choice(held),))
                shares, given = agreed(self, mixed, sight, parts)
                self.assertEqual(given, ("mix", parts))
                expected = [sum(value(part) * value(told[k]) for part, told, _ in parts) for k in range(len(sight[1]))]
                self.assertEqual(values(shares), expected)
                self.assertIs(is_reason(sight, shares, given), True)

    def test_unfit(self):
        good = (ONE, ONE, NONE)
        for parts in ((), ((HALF, good, LEAF),), ((NONE, good, LEAF), (ONE, good, LEAF)), (((3, 2), good, LEAF), ((-1, 2), good, LEAF)),
                      ((HALF, good, LEAF), (HALF, SHARES, LEAF)), ((ONE, SHARES, LEAF),), ((ONE, good, TREE),),
                      ((HALF, good, LEAF), ((2, 3), good, LEAF))):
            with self.assertRaises(Unfit):
                agreed(self, mixed, SLANT, parts)


class Told(unittest.TestCase):
    def test_nodes(self):
        self.assertEqual((nodes(LEAF), depth(LEAF)), ((1, 0, 0), 1))
        self.assertEqual((nodes(TREE), depth(TREE)), ((3, 1, 1), 3))
        self.assertEqual(agreed(self, depth, ("mix", ((HALF, SHARES, TREE), (HALF, SHARES, LEAF)))), 4)

    def test_parted_by(self):
        for sight, shares in list(each())[::2]:
            if not holds(sight, shares):
                continue
            given = reason(sight, shares)
            found = parted_by(sight, given)
            self.assertEqual(list(found), sorted(set(found)))
            self.assertTrue(all(is_space(space, sight[0]) and 0 < len(space) < sight[0] for space in found))
            self.assertEqual(len(found) > 0, nodes(given)[2] > 0)
            if given[0] == "split":
                self.assertIn(given[1], found)
                # What is parted in the inside lies within the SPACE; what in the beyond has it within it.
                for space in found:
                    self.assertTrue(within(space, given[1]) or within(given[1], space))
        whole = ((1, 0, 0), (0, 1, 0), (0, 0, 1))
        sight = (3, (whole,))
        given = ("split", ((1, 1, 0),), LEAF, ("split", ((1, 2),), LEAF, LEAF))
        # BEYOND (1, 1, 0) x - y and z are told: once the first of them and twice the other.
        self.assertEqual(agreed(self, parted_by, sight, given), (((1, 0, 2), (0, 1, -2)), ((1, 1, 0),)))
        given = ("split", ((1, 0, 1), (0, 1, 1)), ("split", ((2, -3),), LEAF, LEAF), LEAF)
        self.assertEqual(agreed(self, parted_by, sight, given), (((1, 0, 1), (0, 1, 1)), ((2, -3, -1),)))
        self.assertEqual(parted_by(sight, LEAF), ())
        self.assertEqual(parted_by(sight, ("mix", ((HALF, (ONE,), given), (HALF, (ONE,), given)))), parted_by(sight, given))

    def test_leaves_in(self):
        self.assertEqual(agreed(self, leaves_in, SLANT, (ONE, ONE, NONE), LEAF), [(ONE, SLANT, (ONE, ONE, NONE))])
        expected = [(HALF, (1, (((1,),), ((1,),), ())), (ONE, NONE, NONE)), (HALF, (1, (((1,),), ((1,),), ())), (NONE, ONE, NONE)),
                    (ONE, (1, ((), (), ((1,),))), SHARES)]
        self.assertEqual(agreed(self, leaves_in, SLANT, SHARES, TREE), expected)
        twice = ("mix", ((THIRD, SHARES, TREE), ((2, 3), (ONE, ONE, NONE), LEAF)))
        shares = ((5, 6), (5, 6), THIRD)
        self.assertEqual([much for much, _, _ in agreed(self, leaves_in, SLANT, shares, twice)], [(1, 6), (1, 6), THIRD, (2, 3)])
        for given in (LEAF, ("mix", ()), ("split", ((1, 0),), LEAF, LEAF), ("mix", ((ONE, (ONE, ONE, NONE), LEAF),))):
            with self.assertRaises(Unfit):
                agreed(self, leaves_in, SLANT, SHARES, given)


class Edges(unittest.TestCase):
    def test_no_shares_hold(self):
        for sight in BLIND:
            self.assertTrue(is_blind(sight))
            for shares in ((ONE,) * len(sight[1]), (NONE,) * len(sight[1])):
                with self.assertRaises(NoPaper):
                    agreed(self, reason, sight, shares)
                for thing in (LEAF, ("mix", ((ONE, shares, LEAF),)), ("mix", ())):
                    self.assertIs(is_reason(sight, shares, thing), False)

    def test_many_end_soon(self):
        some = Random(319)
        for sight in GREAT + ROOM * 6:
            for _ in range(3):
                shares = tuple(some.choice(FRACTIONS) for _ in sight[1])
                try:
                    given = reason(sight, shares)
                except NoPaper:
                    continue
                self.assertIs(is_reason(sight, shares, given), True)
                for other in list(spoiled(given))[::97]:
                    self.assertIs(is_reason(sight, shares, other), False)


if __name__ == "__main__":
    unittest.main()
