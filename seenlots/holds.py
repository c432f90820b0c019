"""What holds: the excess of SPACES, and whether SHARES hold for all lots."""

from seenlots.errors import NoPaper, Unfit
from seenlots.kinds import told_kinds, told_space
from seenlots.spaces import is_space
from seenlots.values import dot, fraction, fraction_sum, on_one_bottom
from seenlots.views import beyond, dims, inside, view_at


def excess(sight, shares, space):
    """The dim of a SPACE less the sum of shares times the dims of its images."""
    dim, row = dims(sight, space)
    top, bottom = fraction_sum(row, shares)
    return fraction(dim * bottom - top, bottom)


def excesses(found, shares):
    """For each kind, as told_kinds tells them, its excess times a bottom; and this."""
    tops, bottom = on_one_bottom(shares)
    return [kind[0] * bottom - dot(kind[1], tops) for kind, _, _ in found], bottom


def are_holding(found, shares):
    """Whether no kind that told_kinds tells has an excess above 0."""
    numbers, _ = excesses(found, shares)
    return max(numbers) <= 0


def greatest_excess(sight, shares):
    """The greatest excess of all SPACES."""
    _, found = told_kinds(sight)
    numbers, bottom = excesses(found, shares)
    return fraction(max(numbers), bottom)


def utmost_spaces(sight, shares):
    """Of the SPACES with the greatest excess the least and the greatest one, as they are found by told_kinds."""
    flats, found = told_kinds(sight)
    numbers, _ = excesses(found, shares)
    most = max(numbers)
    # Only one SPACE of the least dim has this excess, and only one of the greatest: all others have more and less.
    return flats, [(kind, flat) for (kind, flat, _), number in zip(found, numbers) if number == most]


def least_space(sight, shares):
    """Of the SPACES with the greatest excess the one that lies within all others."""
    flats, best = utmost_spaces(sight, shares)
    kind, flat = best[0]
    return told_space(sight[0], flats, kind, flat)


def greatest_space(sight, shares):
    """Of the SPACES with the greatest excess the one within which all others lie."""
    flats, best = utmost_spaces(sight, shares)
    kind, flat = best[-1]
    return told_space(sight[0], flats, kind, flat)


def holds(sight, shares):
    """Whether the SHARES hold for all lots."""
    _, found = told_kinds(sight)
    return are_holding(found, shares)


def too_great(sight, shares):
    """A SPACE with an excess above 0; None if there is none."""
    space = least_space(sight, shares)
    return None if space == () else space


def is_too_great(sight, shares, thing):
    """Whether thing is a SPACE with an excess above 0."""
    return is_space(thing, sight[0]) and excess(sight, shares, thing)[0] > 0


def even_space(sight, shares):
    """An even SPACE; None if there is none."""
    flats, found = told_kinds(sight)
    if not are_holding(found, shares):
        raise Unfit()
    return even_of(sight[0], flats, found, shares)


def even_of(size, flats, found, shares):
    """A SPACE, neither () nor all, of what told_kinds tells with the excess 0; None if there is none."""
    numbers, _ = excesses(found, shares)
    for (kind, flat, _), number in zip(found, numbers):
        if number == 0 and flat is not None:
            return told_space(size, flats, kind, flat)
    return None


def is_even_space(sight, shares, thing):
    """Whether thing is an even SPACE, whether the SHARES hold or not."""
    size, _ = sight
    return is_space(thing, size) and 0 < len(thing) < size and excess(sight, shares, thing)[0] == 0


def enough_share(sight, shares, number):
    """The least FRACTION that this share can be, all others as they are, so that they hold."""
    view_at(sight, number)
    _, found = told_kinds(sight)
    return needed_share(found, shares, number)


def needed_share(found, shares, number):
    """The like, of kinds as told_kinds tells them; raises NoPaper if they do not hold even with 1 there."""
    others = [(0, 1) if place == number else share for place, share in enumerate(shares)]
    numbers, bottom = excesses(found, others)
    best = (0, 1)
    for (kind, _, _), left in zip(found, numbers):
        times = kind[1][number]
        if left > bottom * times:
            raise NoPaper()
        if left * best[1] > best[0] * times:
            best = (left, times)
    return fraction(best[0], best[1] * bottom)


def enough_times(sight, shares):
    """The least FRACTION so many times the shares leave no SPACE an excess above 0."""
    _, found = told_kinds(sight)
    tops, bottom = on_one_bottom(shares)
    best = (0, 1)
    for (dim, row), _, _ in found:
        total = dot(row, tops)
        if dim > 0 and total == 0:
            raise NoPaper()
        if dim * best[1] > best[0] * total:
            best = (dim, total)
    return fraction(best[0] * bottom, best[1])


def in_parts(sight, shares, space):
    """Whether the SHARES hold in the INSIDE of a SPACE, and whether in its BEYOND."""
    if len(space) == 0 or len(space) == sight[0]:
        raise Unfit()
    return holds(inside(sight, space), shares), holds(beyond(sight, space), shares)
