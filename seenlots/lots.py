"""Lots: sets of POINTS, their images, fibres and parts, and boxes."""

from seenlots.errors import TooMany, Unfit
from seenlots.powers import compared, powers_of
from seenlots.spaces import taken, zeros_of
from seenlots.values import combined, is_row
from seenlots.views import seen_by

MOST_POINTS = 4096


def is_lot(thing, size):
    """Whether thing is a LOT of POINTS of this size."""
    if not isinstance(thing, tuple) or len(thing) == 0:
        return False
    if not all([is_row(point, size) for point in thing]):
        return False
    return all([point < later for point, later in zip(thing, thing[1:])])


def lot_of(points):
    """The LOT of these POINTS."""
    return tuple(sorted({tuple(point) for point in points}))


def shown_lot(view, lot):
    """The image of a LOT by a VIEW."""
    return lot_of([seen_by(view, point) for point in lot])


def image_sizes(sight, lot):
    """The SIZES: how many the image by each VIEW has."""
    _, views = sight
    return tuple([len(shown_lot(view, lot)) for view in views])


def fibres(view, lot):
    """The pairs (shown, fibre), ascending."""
    table = {}
    for point in lot:
        table.setdefault(seen_by(view, point), []).append(point)
    return tuple([(seen, lot_of(points)) for seen, points in sorted(table.items())])


def spread(view, lot):
    """The least and the greatest number of POINTS that fibres have."""
    sizes = [len(fibre) for _, fibre in fibres(view, lot)]
    return min(sizes), max(sizes)


def parts(size, space, lot):
    """The pairs (beyond, inside), ascending: the parts of a LOT by a SPACE."""
    if len(space) == 0 or len(space) == size:
        raise Unfit()
    # Two POINTS are in one part exactly if what is told beyond the SPACE is the same.
    return tuple([(told, part_inside(space, part)) for told, part in fibres(zeros_of(space, size), lot)])


def part_inside(space, part):
    """How often each ROW of a SPACE is taken to come from the least POINT of a part to each one."""
    least = part[0]
    steps = [[number - less for number, less in zip(point, least)] for point in part]
    return lot_of([taken(space, step) for step in steps])


def box(size, space, side):
    """The LOT of all sums of the ROWS of a SPACE, each taken from 0 to side - 1 times."""
    return box_of(size, space, [side] * len(space))


def box_of(size, rows, sides):
    """The LOT of all sums of rows, each taken from 0 to its side less 1 times."""
    many = 1
    for side in sides:
        many = many * side
    if many > MOST_POINTS:
        raise TooMany()
    points = [(0,) * size]
    for row, side in zip(rows, sides):
        steps = [combined((times,), (row,), size) for times in range(side)]
        points = lot_sum(points, steps)
    return tuple(points)


def lot_sum(lot, other):
    """All sums of a POINT of each."""
    return lot_of([[part + more for part, more in zip(point, step)] for point in lot for step in other])


def lot_moved(lot, point):
    """Each POINT with this one added."""
    return lot_sum(lot, [point])


def lot_product(lot, other):
    """All POINTS that have the numbers of one of lot, then those of one of other."""
    return lot_of([tuple(point) + tuple(more) for point in lot for more in other])


def against_bound(sight, shares, lot):
    """-1, 0 or 1: how many POINTS a LOT has, against the product of its images' numbers to the SHARES."""
    return compared(((len(lot), (1, 1)),), powers_of(image_sizes(sight, lot), shares))


def keeps(sight, shares, lot):
    """Whether a LOT has at most as many POINTS as the product of its images' numbers to the SHARES."""
    return against_bound(sight, shares, lot) <= 0


def reaches(sight, shares, lot):
    """Whether a LOT has just as many POINTS as that product."""
    return against_bound(sight, shares, lot) == 0
