"""Views and sights: what VIEWS show, and the SIGHTS INSIDE, BEYOND and beside others."""

from seenlots.errors import NoView, Unfit
from seenlots.rows import filled, is_rows, turner
from seenlots.spaces import back_image, image_dim, whole_space, within, zeros_of
from seenlots.values import combined, dot, frozen, is_number


def is_view(thing, size):
    """Whether thing is a VIEW of this size."""
    return is_rows(thing, size)


def is_sight(thing):
    """Whether thing is a SIGHT, of whatever size."""
    if not isinstance(thing, tuple) or len(thing) != 2:
        return False
    size, views = thing
    if not is_number(size) or size < 1 or not isinstance(views, tuple):
        return False
    return all([is_view(view, size) for view in views])


def view_at(sight, number):
    """The VIEW of this number; raises NoView if there is none."""
    _, views = sight
    if not 0 <= number < len(views):
        raise NoView(number)
    return views[number]


def seen_by(view, point):
    """What a VIEW shows of a POINT."""
    return tuple([dot(row, point) for row in view])


def shown(sight, number, point):
    """What the VIEW of this number shows of a POINT."""
    return seen_by(view_at(sight, number), point)


def kernel(sight, number):
    """The SPACE of the POINTS of which this VIEW shows 0s alone."""
    return zeros_of(view_at(sight, number), sight[0])


def common_kernel(sight, numbers):
    """The SPACE of the POINTS of which all these VIEWS show 0s alone."""
    return zeros_of(joined_view(sight, numbers), sight[0])


def dims(sight, space):
    """The DIMENSIONS of a SPACE: its dim, and the dims of its images."""
    _, views = sight
    return len(space), tuple([image_dim(view, space) for view in views])


def inside(sight, space):
    """The SIGHT INSIDE a SPACE."""
    _, views = sight
    if len(space) == 0:
        raise Unfit()
    size = len(space)
    return size, tuple([filled([seen_by(space, row) for row in view]) for view in views])


def beyond(sight, space):
    """The SIGHT BEYOND a SPACE."""
    size, views = sight
    told = told_beyond(size, space)
    return len(told), tuple([told_of(told, view, size) for view in views])


def told_beyond(size, space):
    """The SPACE F of the ROWS that show 0 of a SPACE; raises Unfit if this is all POINTS."""
    if len(space) == size:
        raise Unfit()
    return zeros_of(space, size)


def told_of(told, view, size):
    """The SPACE of how often each ROW of told is taken in the sums of the ROWS of a VIEW."""
    # A ROW is a sum of multiples of those of the VIEW exactly if it shows 0 of the kernel.
    return zeros_of([seen_by(told, point) for point in zeros_of(view, size)], len(told))


def from_inside(sight, space, inner):
    """The SPACE of what the POINTS of a SPACE of the INSIDE tell."""
    if len(space) == 0:
        raise Unfit()
    return filled([combined(times, space, sight[0]) for times in inner])


def from_beyond(sight, space, outer):
    """The SPACE of the POINTS that are told BEYOND a SPACE by a POINT of outer."""
    size, _ = sight
    return back_image(told_beyond(size, space), outer, size)


def with_view(sight, view):
    """The SIGHT with this VIEW behind the others."""
    size, views = frozen(sight)
    return size, views + (frozen(view),)


def only_views(sight, numbers):
    """The SIGHT with these VIEWS alone, in their order."""
    return sight[0], tuple([frozen(view_at(sight, number)) for number in numbers])


def joined_view(sight, numbers):
    """The VIEW that has the ROWS of these VIEWS, one VIEW's behind the other's."""
    rows = []
    for number in numbers:
        rows.extend(view_at(sight, number))
    return frozen(rows)


def based(sight, base):
    """The SIGHT that shows of what base shows of a POINT what sight shows of the POINT."""
    size, views = sight
    back = turner(base)
    # Only a base of determinant 1 or -1 is turned into the unit ROWS.
    if [combined(times, base, size) for times in back] != list(whole_space(size)):
        raise Unfit()
    return size, tuple([tuple([combined(row, back, size) for row in view]) for view in views])


def beside(one, other):
    """The SIGHT of both: a POINT of one with one of other behind it."""
    first, views = frozen(one)
    second, more = frozen(other)
    if len(views) != len(more):
        raise Unfit()
    return first + second, tuple([beside_view(view, first, also, second) for view, also in zip(views, more)])


def beside_view(view, first, also, second):
    """The ROWS of one VIEW with 0s behind them, then those of the other with 0s ahead of them."""
    ahead = [row + (0,) * second for row in view]
    behind = [(0,) * first + row for row in also]
    return tuple(ahead + behind)


def alike(one, other):
    """Whether both have one size, as many VIEWS, and by number the same kernels."""
    first, views = one
    second, more = other
    if first != second or len(views) != len(more):
        return False
    return all([zeros_of(view, first) == zeros_of(also, first) for view, also in zip(views, more)])


def finer(sight, number, other):
    """Whether the kernel of the VIEW number lies within that of the VIEW other."""
    return within(kernel(sight, number), kernel(sight, other))
