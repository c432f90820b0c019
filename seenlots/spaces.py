"""Spaces of points: SPACES, their sums, meets, images, and chains of them."""

from seenlots.errors import Unfit
from seenlots.rows import completed, filled, is_rows, is_stepped, lead_of, null_rows, rank_of, step_shares, stepped
from seenlots.values import combined, dot, frozen, unit_rows


def is_space(thing, size):
    """Whether thing is the TABLE of a SPACE of this size."""
    return is_stepped(thing, size) and filled(thing) == thing


def whole_space(size):
    """The SPACE of all POINTS."""
    return unit_rows(size)


def is_in(space, point):
    """Whether the POINT is in the SPACE."""
    return step_shares(space, point) is not None


def taken(space, point):
    """How often each ROW of space is taken to come to point; None if it is not in it."""
    return step_shares(space, point)


def within(space, other):
    """Whether each POINT in space is in other."""
    return all([is_in(other, row) for row in space])


def sum_space(space, other):
    """The SPACE of all POINTS that are sums of multiples, by FRACTIONS, of ROWS of both."""
    return filled(frozen(space) + frozen(other))


def meet(space, other):
    """The SPACE of the POINTS in both."""
    if len(space) == 0 or len(other) == 0:
        return ()
    size = len(space[0])
    return zeros_of(zeros_of(space, size) + zeros_of(other, size), size)


def zeros_of(rows, size):
    """The SPACE of the POINTS of which each of rows shows 0."""
    return null_rows(rows, size)


def image_rows(view, space):
    """What a VIEW shows of each ROW of a SPACE."""
    return tuple([tuple([dot(row, point) for row in view]) for point in space])


def image(view, space):
    """The SPACE that what view shows of the POINTS in space makes; () for the VIEW ()."""
    if len(view) == 0:
        return ()
    return filled(image_rows(view, space))


def image_dim(view, space):
    """The dim of the image."""
    return rank_of(image_rows(view, space))


def back_image(view, space, size):
    """The SPACE, of size, of the POINTS of which view shows one in space."""
    # A POINT shown is in space exactly if all ROWS that show 0 of space show 0 of it.
    bars = zeros_of(space, len(view))
    return zeros_of([combined(bar, view, size) for bar in bars], size)


def rest_of(outer, inner):
    """ROWS that together with those of inner have just the POINTS in outer as whole sums."""
    if not within(inner, outer):
        raise Unfit()
    if len(outer) == 0:
        return ()
    size = len(outer[0])
    times = completed([taken(outer, row) for row in inner], len(outer))
    return tuple([combined(more, outer, size) for more in times[len(inner):]])


def is_rest(outer, inner, thing):
    """Whether thing is such a tuple of ROWS."""
    if not within(inner, outer):
        raise Unfit()
    if not isinstance(thing, tuple) or len(thing) != len(outer) - len(inner):
        return False
    if len(outer) == 0:
        return True
    return is_rows(thing, len(outer[0])) and stepped(frozen(inner) + thing) == frozen(outer)


def is_chain(thing, size):
    """Whether thing is a tuple of SPACES of this size, each within the next one and unlike it."""
    if not isinstance(thing, tuple) or not all([is_space(space, size) for space in thing]):
        return False
    return all([len(lower) < len(upper) and within(lower, upper) for lower, upper in zip(thing, thing[1:])])


def longest(chain, size):
    """A chain that has all SPACES of chain, one of each dim from 0 to size."""
    steps = [()]
    for upper in list(chain) + [whole_space(size)]:
        lower = steps[-1]
        rest = rest_of(upper, lower)
        steps = steps + [filled(lower + rest[:count]) for count in range(1, len(rest) + 1)]
    return tuple(steps)


def is_longest(chain, size, thing):
    """Whether thing is such a chain."""
    if not is_chain(thing, size) or len(thing) != size + 1:
        return False
    return all([space in thing for space in frozen(chain)])


def small_spaces(size, most):
    """The ascending list of all SPACES that come of POINTS with numbers from -most to most."""
    lines = sorted({filled((point,)) for point in small_points(size, most) if lead_of(point) < size})
    found = [()]
    layer = [()]
    for _ in range(size - 1):
        layer = sorted({filled(space + line) for space in layer for line in lines if not within(line, space)})
        found = found + layer
    return sorted(found + [whole_space(size)])


def small_points(size, most):
    """All POINTS with numbers from -most to most."""
    points = [()]
    for _ in range(size):
        points = [point + (number,) for point in points for number in range(-most, most + 1)]
    return points
