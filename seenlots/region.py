"""All SHARES that hold: their corners, mixes of these, and the least sums of HEIGHTS times SHARES."""

from seenlots.errors import NoPaper, Unfit
from seenlots.holds import are_holding, excesses, needed_share
from seenlots.kinds import all_kinds, hard_ones, joined_flat, told_kinds, view_flats
from seenlots.values import are_shares, best_weights, cut_corners, divided, dot, fraction, fraction_sum, fraction_times
from seenlots.values import fraction_total, fractions_of, frozen, is_at_most, is_fraction, is_number, is_row, mixed_sum
from seenlots.values import on_one_bottom
from seenlots.views import view_at


def are_some_holding(flats, size):
    """Whether all these FLATS together show 0s alone only of the POINT of 0s: just then some SHARES hold."""
    shared = (0, ())
    for flat in flats:
        shared = joined_flat(shared, flat, size)
        if shared is None:
            return True
    return False


def region_of(sight):
    """The planes above which SHARES, ahead of their bottom, are from 0 to 1 and hold; and their corners.

    Corners are pairs (point, tight) as cut_corners has them, the bits of tight being those of the places of planes.
    """
    flats, found = told_kinds(sight)
    many = len(flats)
    if not are_some_holding(flats, sight[0]):
        return [], []
    planes = [[int(place == number) for place in range(many + 1)] for number in range(many)]
    planes.extend([[-int(place == number) for place in range(many)] + [1] for number in range(many)])
    corners_so_far = cube_corners(many)
    for (dim, row), _, _ in hard_ones(found):
        bit = 1 << len(planes)
        planes.append(list(row) + [-dim])
        corners_so_far = cut_corners(corners_so_far, planes[-1], bit, many - 1)
    return planes, corners_so_far


def cube_corners(many):
    """All corners of the cube of so many FRACTIONS from 0 to 1: first come the planes of 0s, then those of 1s."""
    found = [((), 0)]
    for number in range(many):
        ends = ((0, 1 << number), (1, 1 << (many + number)))
        found = [(point + (part,), tight | bit) for point, tight in found for part, bit in ends]
    return [(point + (1,), tight) for point, tight in found]


def corners(sight):
    """The set of all corners."""
    _, found = region_of(sight)
    return tuple(sorted([fractions_of(point) for point, _ in found]))


def mix_of(sight, shares):
    """Pairs (much, corner) the sum of which is the SHARES."""
    planes, found = region_of(sight)
    tops, bottom = on_one_bottom(shares)
    point = tuple(tops + [bottom])
    if not found or min([dot(plane, point) for plane in planes]) < 0:
        raise NoPaper()
    parts = []
    left = (1, 1)
    while True:
        values = [dot(plane, point) for plane in planes]
        tight = sum([1 << place for place, value in enumerate(values) if value == 0])
        # A corner that is on all planes on which the point is: it is taken off so often as can be.
        corner = [told for told, bits in found if bits & tight == tight][0]
        times, over = least_quotient(values, [dot(plane, corner) for plane in planes])
        part = fraction(times * corner[-1], over * point[-1])
        parts.append((fraction_times(left, part), fractions_of(corner)))
        if part == (1, 1):
            return tuple(parts)
        left = fraction_times(left, (part[1] - part[0], part[1]))
        point = divided([over * much - times * less for much, less in zip(point, corner)])


def least_quotient(values, others):
    """Of the pairs of both, those of others above 0, the one that stands for the least quotient."""
    best = None
    for pair in zip(values, others):
        if pair[1] > 0 and (best is None or pair[0] * best[1] < best[0] * pair[1]):
            best = pair
    return best


def is_mix_of(sight, shares, thing):
    """Whether thing is a tuple of such pairs."""
    many = len(shares)
    if not isinstance(thing, tuple) or not all([is_mix_part(part, many) for part in thing]):
        return False
    if fraction_total([much for much, _ in thing]) != (1, 1) or mixed_sum(thing, many) != frozen(shares):
        return False
    there = corners(sight)
    return all([corner in there for _, corner in thing])


def is_mix_part(thing, many):
    """Whether thing is a pair of a FRACTION above 0 and so many SHARES."""
    if not isinstance(thing, tuple) or len(thing) != 2:
        return False
    much, shares = thing
    return is_fraction(much) and much[0] > 0 and are_shares(shares, many)


def least_sum(sight, heights):
    """The least sum of heights times SHARES that hold, and the least corner that has it."""
    several = corners(sight)
    if not several:
        raise NoPaper()
    tops, bottom = on_one_bottom(heights)
    best = None
    for corner in several:
        top, under = fraction_sum(tops, corner)
        if best is None or top * best[0][1] < best[0][0] * under:
            best = ((top, under), corner)
    (top, under), corner = best
    return fraction(top, under * bottom), corner


def kind_weights(sight, heights):
    """The set of pairs (kind, weight) that shows the least sum least."""
    return tuple(sorted([(kind, weight) for kind, _, weight in weighted_kinds(sight, heights)[1]]))


def weighted_kinds(sight, heights):
    """The FLATS of a SIGHT; and triples (kind, flat, weight), weights above 0, that show the least sum least."""
    flats, found = told_kinds(sight)
    if not are_some_holding(flats, sight[0]):
        raise NoPaper()
    hard = hard_ones(found)
    tops, bottom = on_one_bottom(heights)
    size, weights = best_weights([kind[1] for kind, _, _ in hard], [kind[0] for kind, _, _ in hard], tops)
    used = [(hard[number], value) for number, _, value in weights if number < len(hard) and value > 0]
    return flats, [(kind, flat, fraction(value, size * bottom)) for (kind, flat, _), value in used]


def weights_sum(weights):
    """What the weights of triples (kind, flat, weight) times the dims of the kinds come to."""
    return fraction_sum([kind[0] for kind, _, _ in weights], [weight for _, _, weight in weights])


def is_kind_weights(sight, heights, thing):
    """Whether thing is such a set."""
    flats, weights = weighted_kinds(sight, heights)
    if not isinstance(thing, tuple) or not all([is_weighted_kind(part, len(flats)) for part in thing]):
        return False
    if not all([part[0] < later[0] for part, later in zip(thing, thing[1:])]):
        return False
    there = all_kinds(sight)
    if not all([kind in there for kind, _ in thing]):
        return False
    much = [weight for _, weight in thing]
    for place, height in enumerate(heights):
        if not is_at_most(fraction_sum([row[place] for (_, row), _ in thing], much), height):
            return False
    return fraction_sum([dim for (dim, _), _ in thing], much) == weights_sum(weights)


def is_weighted_kind(thing, many):
    """Whether thing is a pair of a dim from 1 with a ROW of so many numbers and a FRACTION above 0."""
    if not isinstance(thing, tuple) or len(thing) != 2:
        return False
    kind, weight = thing
    if not isinstance(kind, tuple) or len(kind) != 2 or not is_fraction(weight) or weight[0] <= 0:
        return False
    return is_number(kind[0]) and kind[0] >= 1 and is_row(kind[1], many)


def least_of_view(sight, number):
    """The least share that this VIEW has in SHARES that hold."""
    view_at(sight, number)
    flats, found = told_kinds(sight)
    # Greater SHARES hold, too: so all others may be 1.
    return needed_share(found, [(1, 1)] * len(flats), number)


def even_share(sight):
    """The least FRACTION that holds if each VIEW has it as its share."""
    _, found = told_kinds(sight)
    best = (0, 1)
    for (dim, row), _, _ in found[1:]:
        total = sum(row)
        if total == 0:
            raise NoPaper()
        if dim * best[1] > best[0] * total:
            best = (dim, total)
    return fraction(best[0], best[1])


def held_kinds(sight, shares):
    """What told_kinds tells of the kinds; raises Unfit if the SHARES do not hold."""
    _, found = told_kinds(sight)
    if not are_holding(found, shares):
        raise Unfit()
    return found


def tight_kinds(sight, shares):
    """The set of the kinds, of dim from 1, whose sum of shares times row is just their dim."""
    found = held_kinds(sight, shares)
    numbers, _ = excesses(found, shares)
    return tuple(sorted([kind for (kind, _, _), number in zip(found, numbers) if number == 0 and kind[0] > 0]))


def leaned(sight, shares):
    """The SHARES, VIEW by VIEW each made as small as can be such that all still hold."""
    found = held_kinds(sight, shares)
    left = list(shares)
    for number in range(len(shares)):
        left[number] = needed_share(found, left, number)
    return tuple(left)


def as_far(sight, one, other):
    """The greatest FRACTION t from 0 to 1 for which 1 - t times one and t times other, added up, hold."""
    found = held_kinds(sight, one)
    numbers, bottom = excesses(found, one)
    others, under = excesses(found, other)
    best = (1, 1)
    for number, more in zip(numbers, others):
        if more > 0:
            # The excess goes from number / bottom, at most 0, to more / under: so far it is not above 0.
            far = (-number * under, more * bottom - number * under)
            if far[0] * best[1] < best[0] * far[1]:
                best = far
    return fraction(best[0], best[1])


def bearing_lots(sight):
    """The set of the sets of VIEWS that alone, none of them left out, bear SHARES that hold."""
    size, _ = sight
    flats = view_flats(sight)
    found = []
    for chosen in sets_of(len(flats)):
        without = [[flats[number] for number in chosen if number != less] for less in chosen]
        if are_some_holding([flats[number] for number in chosen], size):
            if not any([are_some_holding(some, size) for some in without]):
                found.append(chosen)
    return tuple(sorted(found))


def sets_of(many):
    """All sets of numbers from 0 to below many."""
    found = [()]
    for number in range(many):
        found = found + [chosen + (number,) for chosen in found]
    return found
