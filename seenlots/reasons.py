"""Reasons: trees of leaves, mixes and splits that show that SHARES hold."""

from seenlots.errors import NoPaper, Unfit
from seenlots.holds import are_holding, even_of, excesses, in_parts, needed_share
from seenlots.kinds import joined_flat, told_kinds, view_flats
from seenlots.spaces import is_space
from seenlots.values import are_shares, fraction, fraction_times, fraction_total, frozen, is_at_most, is_fraction
from seenlots.values import mixed_sum, on_one_bottom
from seenlots.views import beyond, from_beyond, from_inside, inside

LEAF = ("leaf",)


def is_leaf(sight, shares):
    """Whether ("leaf",) is a REASON of the SHARES."""
    return is_leaf_of(view_flats(sight), frozen(shares), sight[0])


def is_leaf_of(flats, shares, size):
    """Whether the VIEWS with share 1, told by their FLATS, together show 0s alone only of the POINT of 0s."""
    shared = (0, ())
    for flat, share in zip(flats, shares):
        if share == (1, 1):
            shared = joined_flat(shared, flat, size)
            if shared is None:
                return True
    return False


def reason(sight, shares):
    """A REASON of the SHARES."""
    asked = frozen(shares)
    flats, found = told_kinds(sight)
    if not are_holding(found, asked):
        raise NoPaper()
    plain = plain_reason(sight, flats, found, asked)
    if plain is not None:
        return plain
    return "mix", tuple(mix_parts(sight, flats, found, (1, 1), lessened(found, asked)))


def plain_reason(sight, flats, found, shares):
    """A REASON of SHARES that hold which is a leaf, or a split at an even SPACE; None if there is none."""
    if is_leaf_of(flats, shares, sight[0]):
        return LEAF
    space = even_of(sight[0], flats, found, shares)
    return None if space is None else split_reason(sight, shares, space)


def split_reason(sight, shares, space):
    """The split at a SPACE in whose INSIDE and BEYOND the SHARES hold."""
    return "split", space, reason(inside(sight, space), shares), reason(beyond(sight, space), shares)


def lessened(found, shares):
    """SHARES that hold, nowhere above these, none of which could be less; the least shares are lessened first."""
    tops, _ = on_one_bottom(shares)
    left = list(shares)
    for _, number in sorted([(top, number) for number, top in enumerate(tops)]):
        left[number] = needed_share(found, left, number)
    return tuple(left)


def mix_parts(sight, flats, found, much, shares):
    """Parts of a mix of these lessened SHARES, each with a plain REASON, that come to much."""
    plain = plain_reason(sight, flats, found, shares)
    if plain is not None:
        return [(much, shares, plain)]
    one, other, part = drawn_apart(found, shares)
    rest = fraction(part[1] - part[0], part[1])
    first = mix_parts(sight, flats, found, fraction_times(much, part), one)
    return first + mix_parts(sight, flats, found, fraction_times(much, rest), other)


def drawn_apart(found, shares):
    """Two SHARES that hold, and the part of the first one of which with the other these SHARES are the mix.

    These are lessened and have no plain REASON: so but for () no kind than that of all POINTS is even, and two shares
    at least are neither 0 nor 1. These two are moved, one up, one down, as far as can be, both ways.
    """
    tops, bottom = on_one_bottom(shares)
    up, down = [number for number, top in enumerate(tops) if 0 < top < bottom][:2]
    _, ranks = found[-1][0]
    step = [0] * len(tops)
    step[up], step[down] = ranks[down], ranks[up]
    numbers, _ = excesses(found, shares)
    forth = [(bottom - tops[up], step[up]), (tops[down], step[down])]
    back = [(tops[up], step[up]), (bottom - tops[down], step[down])]
    for ((_, row), _, _), number in zip(found, numbers):
        rate = row[up] * step[up] - row[down] * step[down]
        if rate < 0:
            forth.append((-number, -rate))
        elif rate > 0:
            back.append((-number, rate))
    step[down] = -step[down]
    far, near = least_quotient(forth), least_quotient(back)
    one = [fraction(top * far[1] + far[0] * part, bottom * far[1]) for top, part in zip(tops, step)]
    other = [fraction(top * near[1] - near[0] * part, bottom * near[1]) for top, part in zip(tops, step)]
    return tuple(one), tuple(other), fraction(near[0] * far[1], near[0] * far[1] + far[0] * near[1])


def least_quotient(pairs):
    """Of pairs (top, bottom), bottoms above 0, the one that stands for the least."""
    best = pairs[0]
    for pair in pairs[1:]:
        if not is_at_most(best, pair):
            best = pair
    return best


def is_reason(sight, shares, thing):
    """Whether thing is a REASON of the SHARES."""
    return fits_reason(sight, view_flats(sight), frozen(shares), thing)


def fits_reason(sight, flats, shares, thing):
    """The like, told the FLATS of the VIEWS."""
    if not isinstance(thing, tuple) or len(thing) not in (1, 2, 4):
        return False
    if len(thing) == 1:
        return thing == LEAF and is_leaf_of(flats, shares, sight[0])
    if len(thing) == 2:
        return thing[0] == "mix" and fits_mix(sight, flats, shares, thing[1])
    return thing[0] == "split" and fits_split(sight, shares, thing)


def fits_mix(sight, flats, shares, parts):
    """Whether parts are those of a mix that is a REASON of the SHARES."""
    many = len(shares)
    if not isinstance(parts, tuple) or not all([is_part(part, many) for part in parts]):
        return False
    total = mixed_sum([(much, told) for much, told, _ in parts], many)
    if much_of(parts) != (1, 1) or not all([is_at_most(part, share) for part, share in zip(total, shares)]):
        return False
    return all([fits_reason(sight, flats, told, given) for _, told, given in parts])


def is_part(thing, many):
    """Whether thing is a triple of a FRACTION above 0, so many SHARES and something."""
    if not isinstance(thing, tuple) or len(thing) != 3:
        return False
    much, shares, _ = thing
    return is_fraction(much) and much[0] > 0 and are_shares(shares, many)


def much_of(parts):
    """What the FRACTIONS of parts come to."""
    return fraction_total([part[0] for part in parts])


def fits_split(sight, shares, thing):
    """Whether a quadruple is, but for its word, a split that is a REASON of the SHARES."""
    _, space, within, past = thing
    size, _ = sight
    if not is_space(space, size) or len(space) in (0, size):
        return False
    return is_reason(inside(sight, space), shares, within) and is_reason(beyond(sight, space), shares, past)


def split_at(sight, shares, space):
    """A REASON of the SHARES that is a split at this SPACE."""
    if in_parts(sight, shares, space) != (True, True):
        raise NoPaper()
    return split_reason(sight, frozen(shares), frozen(space))


def raised(sight, shares, given, other):
    """The REASON of other, greater SHARES that is a mix of one part, this one."""
    less, more = frozen(shares), frozen(other)
    held = frozen(given)
    if not is_reason(sight, less, held) or not all([is_at_most(part, share) for part, share in zip(less, more)]):
        raise Unfit()
    return "mix", (((1, 1), less, held),)


def mixed(sight, parts):
    """The sum of much times shares, and the mix of the parts."""
    told = frozen(parts)
    if not all([much[0] > 0 for much, _, _ in told]) or much_of(told) != (1, 1):
        raise Unfit()
    flats = view_flats(sight)
    if not all([fits_reason(sight, flats, shares, given) for _, shares, given in told]):
        raise Unfit()
    return mixed_sum([(much, shares) for much, shares, _ in told], len(flats)), ("mix", told)


def within_of(given):
    """The REASONS in a REASON."""
    if given[0] == "mix":
        return [part[2] for part in given[1]]
    return list(given[2:])


def nodes(given):
    """How many nodes of a REASON are leaves, mixes, splits."""
    words = ("leaf", "mix", "split")
    counts = tuple([int(given[0] == word) for word in words])
    for inner in within_of(given):
        counts = tuple([before + more for before, more in zip(counts, nodes(inner))])
    return counts


def depth(given):
    """1 for a leaf, else one more than the greatest depth of what is in it."""
    return 1 + max([0] + [depth(inner) for inner in within_of(given)])


def parted_by(sight, given):
    """The set of the SPACES of a SIGHT that are parted by the splits of a REASON."""
    return tuple(sorted(set(parted_spaces(sight[0], frozen(given)))))


def parted_spaces(size, given):
    """The SPACES of POINTS of this size that are parted by the splits of a REASON."""
    if given[0] != "split":
        return [parted for inner in within_of(given) for parted in parted_spaces(size, inner)]
    _, space, within, past = given
    sight = (size, ())
    found = [from_inside(sight, space, inner) for inner in parted_spaces(len(space), within)]
    found.extend([from_beyond(sight, space, outer) for outer in parted_spaces(size - len(space), past)])
    return [space] + found


def leaves_in(sight, shares, given):
    """For each leaf, from left to right, the triple of its part of the whole, its SIGHT and its SHARES."""
    asked, held = frozen(shares), frozen(given)
    if not is_reason(sight, asked, held):
        raise Unfit()
    return told_leaves((1, 1), frozen(sight), asked, held)


def told_leaves(much, sight, shares, given):
    """The like for a REASON that is much of the whole."""
    if given[0] == "leaf":
        return [(much, sight, shares)]
    if given[0] == "split":
        _, space, within, past = given
        first = told_leaves(much, inside(sight, space), shares, within)
        return first + told_leaves(much, beyond(sight, space), shares, past)
    found = []
    for part, told, inner in given[1]:
        found.extend(told_leaves(fraction_times(much, part), sight, told, inner))
    return found
