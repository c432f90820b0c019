"""Kinds of spaces: the DIMENSIONS that are there, of SIGHTS of size to 3.

A FLAT is a pair (rank, row) for ROWS that are all sums of multiples of some. For sizes to 3 row is () if the rank is 0
or the size; else they are multiples of row, if the rank is 1, or, if it is 2, all that show 0 of row. For greater
sizes the SPACE of its ROWS stands for row.
"""

from seenlots.errors import NoPaper, Unfit
from seenlots.rows import cross_row, filled, flat_of, null_rows, plane_rows, primitive, rank_of
from seenlots.spaces import is_space, sum_space, whole_space, within
from seenlots.values import combined, dot, frozen, is_number, is_row
from seenlots.views import dims, view_at


def view_flat(view, size):
    """The FLAT of a VIEW."""
    if size <= 3:
        return flat_of(view, size)
    space = filled(view)
    return len(space), space


def view_flats(sight):
    """The FLATS of all VIEWS."""
    size, views = sight
    return [view_flat(view, size) for view in views]


def turned_flats(flats, size):
    """The FLATS of what the ROWS of each one show 0 of."""
    if size == 3:
        return [(3 - rank, told) for rank, told in flats]
    return [(size - rank, null_rows(told, size)) for rank, told in flats]


def joined_flat(one, other, size):
    """The FLAT that two FLATS make together; None if it has all ROWS."""
    if one[0] > other[0]:
        one, other = other, one
    if other[0] == size:
        return None
    if one[0] == 0 or one == other:
        return other
    if size > 3:
        both = sum_space(one[1], other[1])
        return (len(both), both) if len(both) < size else None
    if other[0] == 1 and size == 3:
        return 2, primitive(cross_row(one[1], other[1]))
    return other if is_below(one, other, size) else None


def is_below(one, other, size):
    """Whether all ROWS of one FLAT are ROWS of the other, which has not all."""
    if one[0] == 0 or one == other:
        return True
    if size > 3:
        return within(one[1], other[1])
    return one[0] < other[0] and dot(one[1], other[1]) == 0


def shows_nothing(flat, point, size):
    """Whether all ROWS of a FLAT show 0 of a POINT, which is not of 0s."""
    rank, told = flat
    if rank == 0 or rank == size:
        return rank == 0
    if size > 3:
        return not any([dot(row, point) for row in told])
    if rank == 1:
        return dot(told, point) == 0
    return not any(cross_row(told, point))


def made_flats(flats, size):
    """All FLATS with not all ROWS that some of these make together; that of none among them."""
    found = {(0, ()): True}
    for flat in flats:
        if 0 < flat[0] < size:
            for other in list(found):
                both = joined_flat(flat, other, size)
                if both is not None:
                    found[both] = True
    return list(found)


def unseen_space(flat, size):
    """The SPACE of the POINTS of which all ROWS of a FLAT, which has not all, show 0."""
    rank, told = flat
    if rank == 0:
        return whole_space(size)
    if size > 3:
        return null_rows(told, size)
    if size == 2:
        return null_rows((told,), size)
    return plane_rows(told) if rank == 1 else (told,)


def free_point(flat, flats, size):
    """A POINT, not of 0s, of which this FLAT shows 0s alone, and none of flats that is not below it."""
    shared = unseen_space(flat, size)
    others = [other for other in flats if not is_below(other, flat, size)]
    # The sums of ROW k times number to the power k: each other FLAT shows 0s of fewer of them than shared has ROWS.
    number = 0
    while True:
        times = [1]
        for _ in shared[1:]:
            times.append(times[-1] * number)
        point = combined(times, shared, size)
        if not any([shows_nothing(other, point, size) for other in others]):
            return point
        number = number + 1


def told_kinds(sight):
    """The FLATS of a SIGHT; and a triple (kind, flat, hidden) for each kind that is there, lesser dims first.

    The flat tells the kind's lines or, turned, its SPACES of one dim less than all; hidden has a bit for each FLAT that
    is below it: more of them make the row less.
    """
    size, views = sight
    flats = view_flats(sight)
    found = [((0, (0,) * len(views)), None, 0)]
    if size > 1:
        # The image of a line is a line but for the VIEWS that show 0s of it.
        found.extend(kinds_of_flats(1, flats, [1] * len(flats), size))
    ranks = [rank for rank, _ in flats]
    if size > 2:
        # All POINTS of which one ROW shows 0: an image is short of the whole one's dim, by 1, exactly if
        # the ROW is a sum of multiples of those of the VIEW.
        found.extend(kinds_of_flats(size - 1, turned_flats(flats, size), ranks, size))
    found.append(((size, tuple(ranks)), None, 0))
    return flats, found


def kinds_of_flats(dim, flats, most, size):
    """The kinds of this dim: the greatest row, less 1 for each FLAT below some FLAT that they make together."""
    found = []
    for flat in made_flats(flats, size):
        below = [is_below(other, flat, size) for other in flats]
        row = tuple([part - 1 if less else part for part, less in zip(most, below)])
        found.append(((dim, row), flat, sum([1 << place for place, less in enumerate(below) if less])))
    return found


def told_space(size, flats, kind, flat):
    """The SPACE that told_kinds tells for a kind."""
    dim, _ = kind
    if dim == 0:
        return ()
    if dim == size:
        return whole_space(size)
    if dim == 1:
        return filled([free_point(flat, flats, size)])
    return null_rows([free_point(flat, turned_flats(flats, size), size)], size)


def all_kinds(sight):
    """The set of all kinds that are there."""
    _, found = told_kinds(sight)
    return tuple(sorted([kind for kind, _, _ in found]))


def kinds_of_dim(sight, dim):
    """The set of the kinds of this dim that are there."""
    return tuple([kind for kind in all_kinds(sight) if kind[0] == dim])


def hard_kinds(sight):
    """The set of the hard kinds."""
    _, found = told_kinds(sight)
    return tuple(sorted([kind for kind, _, _ in hard_ones(found)]))


def hard_ones(found):
    """Of what told_kinds tells the hard kinds."""
    return [told for told in found[1:] if not any([is_less(other, told) for other in found[1:]])]


def is_less(other, told):
    """Whether other is another kind of the same dim with a row that is nowhere greater."""
    return other[0][0] == told[0][0] and other[2] != told[2] and other[2] & told[2] == told[2]


def is_kind(sight, thing):
    """Whether thing is a kind that is there."""
    _, views = sight
    if not isinstance(thing, tuple) or len(thing) != 2:
        return False
    dim, row = thing
    if not is_number(dim) or not is_row(row, len(views)):
        return False
    _, found = told_kinds(sight)
    return any([kind == thing for kind, _, _ in found])


def space_of_kind(sight, kind):
    """A SPACE whose DIMENSIONS are this kind."""
    flats, found = told_kinds(sight)
    asked = frozen(kind)
    for there, flat, _ in found:
        if there == asked:
            return told_space(sight[0], flats, there, flat)
    raise NoPaper()


def is_space_of_kind(sight, kind, thing):
    """Whether thing is such a SPACE."""
    return is_space(thing, sight[0]) and dims(sight, thing) == frozen(kind)


def free_kind(sight, dim):
    """The kind of this dim that is there and has the greatest number at each place."""
    size, views = sight
    if dim > size:
        raise Unfit()
    return dim, tuple([min(dim, rank_of(view)) for view in views])


def hidden_lots(sight):
    """The set of the sets of VIEWS that just hide some POINT, not of 0s alone."""
    size, _ = sight
    flats = view_flats(sight)
    found = made_flats(flats, size)
    return tuple(sorted([flats_below(flat, flats, size) for flat in found]))


def flats_below(flat, flats, size):
    """The numbers of those of flats that are below this FLAT."""
    return tuple([number for number, other in enumerate(flats) if is_below(other, flat, size)])


def hidden_point(sight, numbers):
    """A POINT, not of 0s alone, of which just these VIEWS show 0s alone."""
    for number in numbers:
        view_at(sight, number)
    size, _ = sight
    flats = view_flats(sight)
    shared = (0, ())
    for number in numbers:
        shared = joined_flat(shared, flats[number], size)
        if shared is None:
            raise NoPaper()
    if flats_below(shared, flats, size) != tuple(numbers):
        raise NoPaper()
    return free_point(shared, flats, size)


def is_hidden_point(sight, numbers, thing):
    """Whether thing is such a POINT."""
    for number in numbers:
        view_at(sight, number)
    size, _ = sight
    if not is_row(thing, size) or not any(thing):
        return False
    return [shows_nothing(flat, thing, size) for flat in view_flats(sight)] == told_places(numbers, len(sight[1]))


def told_places(numbers, many):
    """For each number from 0 to below many whether it is one of these."""
    return [number in numbers for number in range(many)]
