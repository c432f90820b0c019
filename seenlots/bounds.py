"""Bounds: how many POINTS there can be if the images have told numbers, and papers for both sides."""

from seenlots.errors import Unfit
from seenlots.kinds import hard_ones, told_kinds, told_space, view_flats
from seenlots.powers import artanh_bounds, compared, coprime_bases, number_bounds, powers_of, sign_of, times_in
from seenlots.powers import whole_part
from seenlots.reasons import is_reason, reason
from seenlots.region import are_some_holding, corners
from seenlots.spaces import image_dim, is_space
from seenlots.values import are_shares, best_weights, fraction, fraction_sum, is_fraction, on_one_bottom
from seenlots.views import view_at

FIRST_BITS = 64


def bound(sizes, shares):
    """The POWERS of the bound, but those with size 1 or share 0."""
    return tuple([(size, share) for size, share in powers_of(sizes, shares) if size > 1 and share[0] != 0])


def whole_bound(sizes, shares):
    """The greatest number that is not above the bound."""
    return whole_part(bound(sizes, shares))


def held_corners(sight):
    """All corners; raises Unfit if no SHARES hold."""
    found = corners(sight)
    if not found:
        raise Unfit()
    return found


def least_ones(sizes, several):
    """Of several SHARES, not none, those with the least bound, in their order."""
    two = artanh_bounds(1, 3, FIRST_BITS)
    logs = [number_bounds(size, FIRST_BITS, two) for size in sizes]
    ends = []
    for shares in several:
        tops, bottom = on_one_bottom(shares)
        low = sum([top * below for top, (below, _) in zip(tops, logs)]) // bottom
        high = -(-sum([top * above for top, (_, above) in zip(tops, logs)]) // bottom)
        ends.append((low, high))
    most = min([high for _, high in ends])
    best = []
    # Only what is not surely above the least one is compared exactly.
    for shares in [shares for shares, (low, _) in zip(several, ends) if low <= most]:
        order = compared(bound(sizes, shares), bound(sizes, best[0])) if best else 0
        if order < 0:
            best = [shares]
        elif order == 0:
            best.append(shares)
    return best


def all_least(sight, sizes):
    """The set of all corners with the least bound."""
    return tuple(least_ones(sizes, held_corners(sight)))


def tightest(sight, sizes):
    """The least corner with the least bound."""
    return all_least(sight, sizes)[0]


def most_points(sight, sizes):
    """The greatest number that is not above the least bound."""
    return most_of(held_corners(sight), sizes)


def most_of(several, sizes):
    """The like, told the corners."""
    return whole_bound(sizes, least_ones(sizes, several)[0])


def pressing(sight, sizes):
    """The set of the VIEWS at which all corners with the least bound have more than 0."""
    best = all_least(sight, sizes)
    return tuple([number for number in range(len(sizes)) if all([shares[number][0] > 0 for shares in best])])


def gain(sight, sizes, number):
    """How much greater most_points is if the size of this VIEW is one more."""
    view_at(sight, number)
    several = held_corners(sight)
    more = list(sizes)
    more[number] = more[number] + 1
    return most_of(several, more) - most_of(several, sizes)


def least_size(sight, sizes, number, many):
    """The least size of this VIEW with which most_points is many or more; None if none is enough."""
    view_at(sight, number)
    most = 1
    for shares in held_corners(sight):
        needed = needed_size(sizes, shares, number, many)
        if needed is None:
            return None
        most = max(most, needed)
    return most


def needed_size(sizes, shares, number, many):
    """The least size of this VIEW with which the bound of SHARES is many or more; None if none is enough."""
    others = [pair for place, pair in enumerate(powers_of(sizes, shares)) if place != number]
    top, bottom = shares[number]
    if top == 0:
        return 1 if compared(others, [(many, (1, 1))]) >= 0 else None
    asked = [(many, (bottom, top))]
    asked.extend([(size, fraction(-share[0] * bottom, share[1] * top)) for size, share in others])
    least = whole_part(asked)
    return least if least > 0 and compared([(least, (1, 1))], asked) >= 0 else least + 1


def reach(sight, sizes):
    """A REACH whose worth is the least bound."""
    flats, found = told_kinds(sight)
    if not are_some_holding(flats, sight[0]):
        raise Unfit()
    hard = hard_ones(found)
    size, used = reaching_weights(hard, sizes, FIRST_BITS)
    pairs = []
    for number, row in used:
        kind, flat, _ = hard[number]
        pairs.append((told_space(sight[0], flats, kind, flat), tuple([fraction(part, size) for part in row])))
    return tuple(sorted(pairs))


def reaching_weights(hard, sizes, bits):
    """A number size, and pairs (number, row): which hard kinds have ranges above 1, and their powers times size.

    Logarithms of coprime numbers are not tied: so whole numbers may stand for them, with so many bits, or twice as
    many if then some range should be less than 1.
    """
    two = artanh_bounds(1, 3, bits)
    bases = [(base, number_bounds(base, bits, two)[0]) for base in coprime_bases(sizes)]
    limits = [sum([times_in(number, base) * log for base, log in bases]) for number in sizes]
    size, used = best_weights([kind[1] for kind, _, _ in hard], [kind[0] for kind, _, _ in hard], limits)
    signs = [sign_of([(number, part) for number, part in zip(sizes, row)]) for _, row, _ in used]
    if min(signs) < 0:
        return reaching_weights(hard, sizes, bits * 2)
    found = [(number, row) for (number, row, _), sign in zip(used, signs) if sign > 0]
    return size, [(number, row) for number, row in found if number < len(hard)]


def is_reach(sight, sizes, thing):
    """Whether thing is a REACH."""
    size, views = sight
    if not are_some_holding(view_flats(sight), size):
        raise Unfit()
    if not isinstance(thing, tuple) or not all([is_reaching(part, size, sizes) for part in thing]):
        return False
    if not all([part[0] < later[0] for part, later in zip(thing, thing[1:])]):
        return False
    for view, most in zip(views, sizes):
        shown = [image_dim(view, space) for space, _ in thing]
        if compared(ranges_product(sizes, thing, shown), [(most, (1, 1))]) > 0:
            return False
    return True


def is_reaching(thing, size, sizes):
    """Whether thing is a pair of a SPACE, not (), and a FRACTION for each VIEW, the range of which is 1 or more."""
    if not isinstance(thing, tuple) or len(thing) != 2:
        return False
    space, powers = thing
    if not is_space(space, size) or space == () or not isinstance(powers, tuple) or len(powers) != len(sizes):
        return False
    return all([is_fraction(power) for power in powers]) and compared(powers_of(sizes, powers), ()) >= 0


def ranges_product(sizes, told, times):
    """The POWERS of the product of the ranges of a REACH, each to the power of its number in times."""
    totals = [fraction_sum(times, [powers[place] for _, powers in told]) for place in range(len(sizes))]
    return tuple([(size, total) for size, total in zip(sizes, totals) if size > 1 and total[0] != 0])


def reach_worth(sizes, reach):
    """The POWERS of the worth of a REACH, but those with size 1 or sum 0."""
    return ranges_product(sizes, reach, [len(space) for space, _ in reach])


def ceiling(sight, sizes):
    """A CEILING with the least bound."""
    shares = tightest(sight, sizes)
    return shares, reason(sight, shares)


def is_ceiling(sight, sizes, many, thing):
    """Whether thing is a CEILING whose whole_bound is many or less."""
    if not are_some_holding(view_flats(sight), sight[0]):
        raise Unfit()
    if not isinstance(thing, tuple) or len(thing) != 2 or not are_shares(thing[0], len(sizes)):
        return False
    shares, given = thing
    return compared(bound(sizes, shares), [(many + 1, (1, 1))]) < 0 and is_reason(sight, shares, given)
