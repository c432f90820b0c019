"""Flags: chains of SPACES with weights, the greatest that fit HEIGHTS, and the chain of slopes."""

from seenlots.errors import Unfit
from seenlots.kinds import told_kinds, told_space, view_flats
from seenlots.powers import whole_part
from seenlots.region import are_some_holding, weighted_kinds, weights_sum
from seenlots.rows import filled, is_rows, stepped
from seenlots.spaces import image_dim, is_space, meet, rest_of, sum_space, taken, within
from seenlots.values import dot, fraction, fraction_plus, fraction_sum, fraction_total, frozen, is_at_most, is_fraction
from seenlots.values import on_one_bottom
from seenlots.views import beyond, from_beyond, inside


def is_flag(size, thing):
    """Whether thing is a FLAG of SPACES of this size."""
    if not isinstance(thing, tuple) or not all([is_weighted_space(part, size) for part in thing]):
        return False
    spaces = [space for space, _ in thing]
    return all([len(lower) < len(upper) and within(lower, upper) for lower, upper in zip(spaces, spaces[1:])])


def is_weighted_space(thing, size):
    """Whether thing is a pair of a SPACE, not (), and a FRACTION above 0."""
    if not isinstance(thing, tuple) or len(thing) != 2:
        return False
    space, weight = thing
    return is_space(space, size) and space != () and is_fraction(weight) and weight[0] > 0


def flag_worth(pairs):
    """The sum of the weights times the dims."""
    return fraction_sum([len(space) for space, _ in pairs], [weight for _, weight in pairs])


def flag_heights(sight, pairs):
    """The least HEIGHTS that pairs fit."""
    _, views = sight
    weights = [weight for _, weight in pairs]
    return tuple([fraction_sum([image_dim(view, space) for space, _ in pairs], weights) for view in views])


def fits(sight, pairs, heights):
    """Whether pairs fit the HEIGHTS."""
    return all([is_at_most(least, height) for least, height in zip(flag_heights(sight, pairs), heights)])


def best_weighted(sight, heights):
    """What weighted_kinds tells; raises Unfit if all VIEWS show some POINT, not of 0s, as 0s."""
    if not are_some_holding(view_flats(sight), sight[0]):
        raise Unfit()
    return weighted_kinds(sight, heights)


def best_worth(sight, heights):
    """The greatest worth of a FLAG that fits the HEIGHTS."""
    _, weights = best_weighted(sight, heights)
    return weights_sum(weights)


def best_flag(sight, heights):
    """A FLAG with the greatest worth of those that fit the HEIGHTS."""
    flats, weights = best_weighted(sight, heights)
    return uncrossed([(told_space(sight[0], flats, kind, flat), weight) for kind, flat, weight in weights])


def is_best_flag(sight, heights, thing):
    """Whether thing is such a FLAG."""
    best = best_worth(sight, heights)
    return is_flag(sight[0], thing) and flag_worth(thing) == best and fits(sight, thing, heights)


def uncrossed(pairs):
    """The FLAG that comes of pairs: of two SPACES neither within the other the sum and the meet get the weight."""
    weights = {}
    for space, weight in frozen(pairs):
        put_on(weights, space, weight)
    crossing = first_crossing(sorted(weights))
    while crossing is not None:
        one, other = crossing
        less = weights[one] if is_at_most(weights[one], weights[other]) else weights[other]
        for space in (one, other):
            put_on(weights, space, (-less[0], less[1]))
        for space in (sum_space(one, other), meet(one, other)):
            if space != ():
                put_on(weights, space, less)
        crossing = first_crossing(sorted(weights))
    # Of SPACES each within the next one no two have one dim.
    return tuple([(space, weights[space]) for _, space in sorted([(len(space), space) for space in weights])])


def put_on(weights, space, weight):
    """More weight for a SPACE, or less; without any weight it is left out."""
    weights[space] = fraction_plus(weights.get(space, (0, 1)), weight)
    if weights[space][0] == 0:
        del weights[space]


def first_crossing(spaces):
    """The least pair of these SPACES, told in their order, neither of which is within the other; None if none is."""
    for place, one in enumerate(spaces):
        for other in spaces[place + 1:]:
            small, great = (one, other) if len(one) < len(other) else (other, one)
            if not within(small, great):
                return one, other
    return None


def flag_rows(flag):
    """A TABLE of whose ROWS for each SPACE the first ones, as many as its dim, make just its POINTS."""
    rows, lower = (), ()
    for upper, _ in frozen(flag):
        rows = rows + rest_of(upper, lower)
        lower = upper
    return rows


def is_flag_rows(flag, thing):
    """Whether thing is such a TABLE."""
    if len(flag) == 0:
        return thing == ()
    last = flag[-1][0]
    if not is_rows(thing, len(last[0])) or len(thing) != len(last):
        return False
    return all([stepped(thing[:len(space)]) == space for space, _ in frozen(flag)])


def flag_box(flag, base):
    """The ROWS of flag_rows; and a side for each, the whole part of base to the weights of the SPACES that have it."""
    rows = flag_rows(flag)
    weights = [fraction_total([weight for space, weight in flag if len(space) > place]) for place in range(len(rows))]
    return rows, tuple([whole_part([(base, weight)]) for weight in weights])


def first_slope(sight, shares):
    """The greatest SPACE of those with the least slope over (), and this."""
    flats, found = told_kinds(sight)
    tops, bottom = on_one_bottom(shares)
    best, chosen = None, None
    # Lesser dims come first: of equal slopes the last one is taken.
    for kind, flat, _ in found[1:]:
        dim, row = kind
        slope = (dot(row, tops), dim)
        if best is None or is_at_most(slope, best):
            best, chosen = slope, (kind, flat)
    kind, flat = chosen
    return told_space(sight[0], flats, kind, flat), fraction(best[0], best[1] * bottom)


def slopes(sight, shares):
    """The pairs of the SPACES of the chain of slopes and their slopes, up to all POINTS."""
    size, _ = sight
    space, slope = first_slope(sight, shares)
    found = [(space, slope)]
    while len(space) < size:
        outer, slope = first_slope(beyond(sight, space), shares)
        space = from_beyond(sight, space, outer)
        found.append((space, slope))
    return tuple(found)


def is_level(sight, shares):
    """Whether no SPACE but () has a lesser slope over () than all POINTS."""
    space, _ = first_slope(sight, shares)
    return len(space) == sight[0]


def level_parts(sight, shares):
    """For each pair of slopes the SIGHT that is, INSIDE its SPACE, BEYOND the one ahead."""
    found = []
    lower = ()
    for upper, _ in slopes(sight, shares):
        part = inside(sight, upper)
        if lower != ():
            part = beyond(part, filled([taken(upper, row) for row in lower]))
        found.append(part)
        lower = upper
    return tuple(found)
