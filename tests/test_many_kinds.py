"""Kinds of many small SIGHTS [9]: just the DIMENSIONS of SPACES that are there, told soon."""

import unittest
from itertools import combinations, product
from random import Random

from seenlots.errors import NoPaper
from seenlots.kinds import all_kinds, hard_kinds, hidden_lots, hidden_point, is_kind, is_space_of_kind, kinds_of_dim, space_of_kind
from seenlots.spaces import small_spaces
from tests.sights import some_sights
from tests.test_views import told_dims
from tests.tools import dot, rank

SPACES = {size: small_spaces(size, 2) for size in (1, 2, 3)}
LARGE = (3, (((3, 1, 1), (1, 4, 1)), ((1, 5, 9), (2, 6, 5)), ((3, 5, 8),), ((9, 7, 9),)))


def meets_of(size, several):
    """Of tuples of ROWS the numbers of those that come of ROWS that some of them make, not all, by all choices."""
    found = set()
    for count in range(len(several) + 1):
        for chosen in combinations(range(len(several)), count):
            rows = [row for number in chosen for row in several[number]]
            if rank(rows) < size:
                found.add(tuple(number for number, more in enumerate(several) if rank(rows + list(more)) == rank(rows)))
    return found


def null_rows(rows, size):
    """Some ROWS whose multiples are all those that show 0 of rows: by minors."""
    some = [row for row in rows if any(row)]
    if rank(some) == 0:
        return [tuple(int(place == k) for place in range(size)) for k in range(size)]
    if rank(some) == size:
        return []
    if size == 2:
        return [(some[0][1], -some[0][0])]
    crosses = [(a[1] * b[2] - a[2] * b[1], a[2] * b[0] - a[0] * b[2], a[0] * b[1] - a[1] * b[0]) for a, b in combinations(some, 2)]
    if rank(some) == 2:
        return [max(crosses, key=lambda row: any(row))]
    a, b, c = some[0]
    return [row for row in ((0, c, -b), (-c, 0, a), (b, -a, 0)) if any(row)]


def told_kinds(sight):
    """The kinds that are there, by ranks alone: lines in just some kernels, and planes with just some in them."""
    size, views = sight
    ranks = [rank(view) for view in views]
    kinds = {(0, (0,) * len(views)), (size, tuple(ranks))}
    if size > 1:
        kinds |= {(1, tuple(int(number not in lot) for number in range(len(views)))) for lot in meets_of(size, views)}
    if size > 2:
        kernels = [null_rows(view, size) for view in views]
        kinds |= {(2, tuple(count - (number in lot) for number, count in enumerate(ranks))) for lot in meets_of(size, kernels)}
    return kinds


def all_small():
    """SIGHTS of VIEWS of none to three ROWS of few numbers, of 0s, alike, and of some more."""
    lines = [((0,),), ((1,),), ((-2,), (0,)), (), ((0,), (3,), (0,))]
    found = [(1, views) for count in range(3) for views in product(lines, repeat=count)]
    flats = [(), ((0, 0),), ((1, 0),), ((2, 0), (0, 0)), ((0, 3),), ((1, -1), (-1, 1)), ((1, 0), (0, 1)), ((1, 2), (1, 3), (0, 0))]
    found += [(2, views) for count in range(3) for views in product(flats, repeat=count)]
    found += [(2, (flats[k], flats[k - 3], flats[k], flats[k - 4])) for k in range(len(flats))]
    some = Random(71)
    rooms = [(), ((0, 0, 0),)] + [tuple(some.choices(SPACES[3][7], k=1)) for _ in range(2)]
    rooms += [tuple(tuple(some.randint(-1, 1) for _ in range(3)) for _ in range(count)) for count in (1, 1, 2, 2, 2, 3)]
    found += [(3, views) for count in range(3) for views in product(rooms, repeat=count)]
    for _ in range(150):
        views = tuple(some.choices(rooms, k=some.choice((3, 4))))
        found.append((3, views))
    return found


class Kinds(unittest.TestCase):
    def test_just_those_that_are_there(self):
        for sight in all_small() + some_sights(72, 120, 1) + some_sights(73, 60, 99) + [LARGE]:
            kinds = all_kinds(sight)
            self.assertEqual(kinds, tuple(sorted(told_kinds(sight))), sight)
            for kind in kinds:
                self.assertEqual(told_dims(sight, space_of_kind(sight, kind)), kind)
            small = {told_dims(sight, space) for space in SPACES[sight[0]][::5]}
            self.assertLessEqual(small, set(kinds), sight)
            self.assertEqual(hidden_lots(sight), tuple(sorted(meets_of(*sight))), sight)
            for numbers in hidden_lots(sight):
                point = hidden_point(sight, numbers)
                hiding = [all(dot(row, point) == 0 for row in view) for view in sight[1]]
                self.assertEqual(hiding, [number in numbers for number in range(len(sight[1]))])

    def test_which_is_returned(self):
        # Which SPACES and POINTS are returned stays as it was before these functions were made quick.
        self.assertEqual([space_of_kind(LARGE, kind) for kind in hard_kinds(LARGE)], [
            ((3, 2, -11),), ((29, -13, 4),), ((11, -45, 24),), ((1, 33, -114), (0, 97, -331)), ((1, 1, -1), (0, 8, -5)),
            ((1, 0, -1), (0, 9, -7)), ((1, 0, 0), (0, 1, 0), (0, 0, 1))])
        self.assertEqual([hidden_point(LARGE, numbers) for numbers in hidden_lots(LARGE)], [
            (1, 0, 0), (3, 2, -11), (29, -13, 4), (1, 1, -1), (11, -45, 24), (1, 0, -1)])
        some = (3, (((1, 0, 0),), ((0, 1, 0),), ((1, 1, 1), (2, 2, 2)), ((0, 1, -2),)))
        self.assertEqual([space_of_kind(some, kind) for kind in all_kinds(some)][:12], [
            (), ((0, 0, 1),), ((0, 1, -1),), ((0, 2, 1),), ((0, 1, 0),), ((1, 0, -1),), ((1, 0, 0),), ((1, 0, 1),),
            ((3, -2, -1),), ((1, 1, -2),), ((1, 2, 1),), ((1, 1, 1),)])
        self.assertEqual([hidden_point(some, numbers) for numbers in hidden_lots(some)], [
            (1, 1, 1), (0, 1, 0), (0, 0, 1), (0, 1, -1), (0, 2, 1), (1, 0, 1), (1, 0, -1), (1, 0, 0), (1, 1, -2), (3, -2, -1),
            (1, 2, 1)])

    def test_many_end_soon(self):
        # Some thousands of calls at size 3 with four VIEWS: if one took a second, this would not end in an hour.
        for sight in [sight for sight in some_sights(74, 400, 9, sizes=(3,)) if len(sight[1]) == 4][:60] + [LARGE] * 10:
            kinds, hard = all_kinds(sight), hard_kinds(sight)
            self.assertTrue(hidden_lots(sight))
            self.assertLessEqual(set(hard), set(kinds))
            for kind in kinds:
                self.assertIs(is_kind(sight, kind), True)
                self.assertIs(is_space_of_kind(sight, kind, space_of_kind(sight, kind)), True)
                less = (kind[0] + 1, kind[1])
                if less not in kinds:
                    self.assertIs(is_kind(sight, less), False)
                    with self.assertRaises(NoPaper):
                        space_of_kind(sight, less)
            self.assertEqual(kinds_of_dim(sight, 2), tuple(kind for kind in kinds if kind[0] == 2))


if __name__ == "__main__":
    unittest.main()
