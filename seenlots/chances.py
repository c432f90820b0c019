"""Chances: how much VIEWS tell of a random POINT, and SHARES that hold at CHANCES."""

from seenlots.errors import Unfit
from seenlots.powers import compared, powers_over, powers_times, powers_to
from seenlots.values import fraction_times, fraction_total, is_measure
from seenlots.views import seen_by


def is_chances(thing, size):
    """Whether thing is CHANCES of POINTS of so many places."""
    return is_measure(thing, size) and fraction_total([much for _, much in thing]) == (1, 1)


def even_chances(lot):
    """The even CHANCES of these POINTS."""
    return tuple([(tuple(point), (1, len(lot))) for point in lot])


def is_even(chances):
    """Whether all FRACTIONS are equal."""
    several = [tuple(much) for _, much in chances]
    return several.count(several[0]) == len(several)


def added_up(pairs):
    """The set of pairs of a POINT, each once, and what its FRACTIONS come to."""
    table = {}
    for point, much in pairs:
        table.setdefault(point, []).append(much)
    return tuple([(point, fraction_total(several)) for point, several in sorted(table.items())])


def chances_seen(view, chances):
    """The CHANCES of what a VIEW shows."""
    return added_up([(seen_by(view, point), much) for point, much in chances])


def given_seen(view, chances):
    """For each image its chance, and the chances of the POINTS if it is shown."""
    table = {}
    for point, much in chances:
        table.setdefault(seen_by(view, point), []).append((tuple(point), much))
    return tuple([told_image(seen, pairs) for seen, pairs in sorted(table.items())])


def told_image(seen, pairs):
    """The triple of an image, its chance, and the CHANCES of its POINTS, of which pairs tell the chances."""
    top, bottom = fraction_total([much for _, much in pairs])
    return seen, (top, bottom), tuple([(point, fraction_times(much, (bottom, top))) for point, much in pairs])


def width(chances):
    """The width: POWERS."""
    pairs = []
    for _, (top, bottom) in chances:
        pairs.extend([(bottom, (top, bottom)), (top, (-top, bottom))])
    return tuple(pairs)


def width_given(view, chances):
    """The widths of the CHANCES of given_seen, each to the power of its FRACTION."""
    pairs = []
    for _, much, given in given_seen(view, chances):
        pairs.extend(powers_to(width(given), much))
    return tuple(pairs)


def tells(view, second, chances):
    """Whether each image by view goes with one image by second alone."""
    table = {}
    return all([table.setdefault(seen_by(view, point), seen_by(second, point)) == seen_by(second, point)
                for point, _ in chances])


def in_common(view, second, chances):
    """The widths of what both VIEWS show over that of what they show together."""
    apart = powers_times(width(chances_seen(view, chances)), width(chances_seen(second, chances)))
    return powers_over(apart, width(chances_seen(list(view) + list(second), chances)))


def chances_mixed(parts):
    """The CHANCES of parts, each so many times as its FRACTION tells, those of equal POINTS added up."""
    pairs = []
    for times, chances in parts:
        pairs.extend([(tuple(point), fraction_times(times, much)) for point, much in chances])
    return added_up(pairs)


def chances_beside(one, other):
    """The CHANCES of the POINTS of one followed by those of other."""
    return tuple([(tuple(point) + tuple(more), fraction_times(much, also))
                  for point, much in one for more, also in other])


def chances_shifted(chances, point):
    """The CHANCES with a POINT added to each."""
    return tuple([(tuple([part + more for part, more in zip(start, point)]), tuple(much)) for start, much in chances])


def left_over(sight, shares, chances):
    """The widths of what the VIEWS show, each to the power of its share, over that of the CHANCES."""
    _, views = sight
    if len(shares) != len(views):
        raise Unfit()
    pairs = []
    for view, share in zip(views, shares):
        pairs.extend(powers_to(width(chances_seen(view, chances)), share))
    return powers_over(pairs, width(chances))


def hold_at(sight, shares, chances):
    """Whether the SHARES hold at the CHANCES."""
    return compared(left_over(sight, shares, chances), ()) >= 0


def is_breaking(sight, shares, thing):
    """Whether thing is CHANCES at which the SHARES do not hold."""
    size, views = sight
    if len(shares) != len(views):
        raise Unfit()
    return is_chances(thing, size) and not hold_at(sight, shares, thing)
