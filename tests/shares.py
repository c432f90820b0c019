"""SHARES that the tests share, and what holds, worked out by ranks and Fractions."""

from fractions import Fraction
from functools import lru_cache
from itertools import combinations
from math import gcd, lcm
from random import Random

from seenlots.errors import NoPaper
from seenlots.holds import enough_share
from seenlots.spaces import small_spaces
from tests.sights import small_sights, some_sights
from tests.test_many_kinds import told_kinds
from tests.test_views import told_dims
from tests.tools import rank

NONE, ONE, HALF, THIRD = (0, 1), (1, 1), (1, 2), (1, 3)
FRACTIONS = [(top, bottom) for bottom in range(1, 13) for top in range(bottom + 1) if gcd(top, bottom) == 1]
FEW = [NONE, HALF, THIRD, (2, 3), (3, 4), ONE, ONE]
SPACES = {size: small_spaces(size, 2) for size in (1, 2, 3)}

# All VIEWS show 0s of some POINT that is not of 0s: so no SHARES hold.
BLIND = [
    (1, ()), (2, ()), (3, ()), (1, ((),)), (1, (((0,),),)), (2, (((1, 0),),)), (2, (((1, 1),), ((-2, -2), (0, 0)))),
    (3, (((1, 0, 0),), ((0, 1, 0),))), (3, (((1, 2, 3), (2, 4, 6)), (), ((0, 0, 0),))), (3, (((1, -1, 0), (0, 1, -1)), ((1, 0, -1),))),
]

# At the bounds of small SIGHTS: four VIEWS, up to three ROWS, numbers to 99.
GREAT = [sight for sight in some_sights(300, 60, 99, sizes=(3,)) if len(sight[1]) == 4]

# VIEWS that hide unlike lines and planes, in general and in special position.
ROOM = [
    (3, (((1, 0, 0), (0, 1, 0)), ((0, 1, 0), (0, 0, 1)), ((1, 0, 0), (0, 0, 1)))),
    (3, (((1, 0, 0),), ((0, 1, 0),), ((0, 0, 1),), ((1, 1, 1),))),
    (3, (((1, 0, 0), (0, 1, 0)), ((0, 1, 0), (0, 0, 1)), ((1, 0, 0), (0, 0, 1)), ((1, 1, 0), (0, 1, 1)))),
    (3, (((1, 0, 0), (0, 1, 0)), ((0, 0, 1),), ((1, 0, 1),), ((0, 1, 1), (1, 2, 3)))),
    (2, (((1, 0),), ((0, 1),), ((1, 1),), ((1, -1),))),
]


def fraction(value):
    """A Fraction as a pair."""
    return (value.numerator, value.denominator)


def value(pair):
    return Fraction(*pair)


def values(pairs):
    return [Fraction(*pair) for pair in pairs]


@lru_cache(maxsize=None)
def kinds_of(sight):
    """The kinds that are there, by ranks."""
    return sorted(told_kinds(sight))


@lru_cache(maxsize=None)
def dims_of(sight, space):
    """The DIMENSIONS of a SPACE, by ranks."""
    return told_dims(sight, space)


def told_excess(shares, kind):
    """The excess of a kind."""
    return kind[0] - sum(value(share) * part for share, part in zip(shares, kind[1], strict=True))


def told_holds(sight, shares):
    """Whether SHARES hold, by the kinds that are there."""
    return all(told_excess(shares, kind) <= 0 for kind in kinds_of(sight))


def is_blind(sight):
    """Whether all VIEWS show 0s of some POINT that is not of 0s."""
    return rank([row for view in sight[1] for row in view]) < sight[0]


def some_shares(seed, sight, many=6):
    """SHARES of a SIGHT: all 0, all 1, any, and such that are just enough or just too small."""
    some = Random(seed)
    count = len(sight[1])
    found = [(NONE,) * count, (ONE,) * count, (HALF,) * count]
    for _ in range(many):
        found.append(tuple(some.choice(FEW) for _ in range(count)))
        found.append(tuple(some.choice(FRACTIONS) for _ in range(count)))
    if not is_blind(sight):
        for shares in found[2:]:
            for _ in range(2):
                number = some.randrange(count)
                try:
                    just = value(enough_share(sight, shares, number))
                except NoPaper:
                    continue
                if just.denominator <= 12:
                    # Just enough; and less by the least step that leaves a bottom to 12.
                    less = max((Fraction(top, bottom) for top, bottom in FRACTIONS if Fraction(top, bottom) < just), default=just)
                    found += [shares[:number] + (fraction(part),) + shares[number + 1:] for part in (just, less)]
    return sorted(set(found))


def sights(seed, many):
    """SIGHTS with all edges."""
    return ROOM + small_sights(seed, many) + BLIND + GREAT[:4]


def power(number, share, many):
    """A number to the power many times a share, many being a multiple of its bottom."""
    return number ** (share[0] * many // share[1])


def product_order(one, other):
    """How two products of pairs (number, FRACTION from 0) compare, by whole numbers."""
    many = lcm(*[much[1] for pairs in (one, other) for _, much in pairs])
    first = second = 1
    for number, much in one:
        first *= power(number, much, many)
    for number, much in other:
        second *= power(number, much, many)
    return (first > second) - (first < second)


def solved(rows, sums):
    """The one solution, Fractions, of as many equations as unknowns; None if there is not just one."""
    left = [[Fraction(part) for part in row] + [Fraction(total)] for row, total in zip(rows, sums, strict=True)]
    count = len(left)
    for place in range(count):
        usable = [k for k in range(place, count) if left[k][place] != 0]
        if not usable:
            return None
        left[place], left[usable[0]] = left[usable[0]], left[place]
        left[place] = [part / left[place][place] for part in left[place]]
        for k in range(count):
            if k != place and left[k][place]:
                left[k] = [part - left[k][place] * less for part, less in zip(left[k], left[place])]
    return [row[-1] for row in left]


def told_corners(planes, many):
    """All corners of where pairs (ROW, least) show at least so much: by all choices of so many planes."""
    found = set()
    for chosen in combinations(planes, many):
        point = solved([row for row, _ in chosen], [least for _, least in chosen])
        if point is not None and all(sum(part * number for part, number in zip(row, point)) >= least for row, least in planes):
            found.add(tuple(fraction(part) for part in point))
    return found
