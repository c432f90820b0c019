"""Primes and groups: what holds over tuples modulo a prime, and for parts of finite GROUPS.

A part of a GROUP may be told by its mask, a number with the bit k for the k-th of all elements, ascending.
"""

from seenlots.errors import TooMany, Unfit
from seenlots.modulo import all_sums, dims_at, excesses_at, reduced, tables_of, zeros_at
from seenlots.rows import is_rows
from seenlots.values import bits_in, dot, fraction, fraction_times, frozen, is_number, is_row, on_one_bottom

PRIMES = (2, 3, 5, 7)

MOST_ORDERS = 4
MOST_MEMBERS = 36


def is_pspace(prime, size, thing):
    """Whether thing is the reduced TABLE of a PSPACE of this size."""
    return is_rows(thing, size) and reduced(prime, thing) == thing


def pspan(prime, rows):
    """The PSPACE of all sums of these ROWS."""
    return reduced(prime, rows)


def pspaces(prime, size):
    """The list of all PSPACES, those with fewer ROWS first, then ascending."""
    found = []
    for dim in range(size + 1):
        found.extend(sorted(tables_of(prime, size, dim)))
    return found


def ppoints(prime, size, space):
    """The set of the tuples of a PSPACE."""
    return tuple(sorted(all_sums(prime, space, size)))


def at_prime(prime, space):
    """The PSPACE of the ROWS of a SPACE."""
    return reduced(prime, space)


def pdims(prime, sight, space):
    """The dim of a PSPACE, and the dims of its images."""
    _, views = sight
    return len(space), dims_at(prime, views, space)


def pkinds(prime, sight):
    """The set of these for all PSPACES."""
    no_shares = [(0, 1)] * len(sight[1])
    found, _, _ = excesses_at(prime, sight, no_shares)
    return tuple(sorted([kind for kind, _, _ in found]))


def pholds(prime, sight, shares):
    """Whether the SHARES hold over a prime."""
    _, numbers, _ = excesses_at(prime, sight, shares)
    return max(numbers) <= 0


def pbest(prime, sight, shares):
    """The greatest excess, the PSPACE with it that lies in all such, and the one that has all such."""
    found, numbers, bottom = excesses_at(prime, sight, shares)
    most = max(numbers)
    # Only one of the least dim has this excess, and only one of the greatest: all others have more and less.
    best = [(space, is_turned) for (_, space, is_turned), number in zip(found, numbers) if number == most]
    low, high = [zeros_at(prime, space, sight[0]) if is_turned else space for space, is_turned in (best[0], best[-1])]
    return fraction(most, bottom), low, high


def pbreak(prime, sight, shares):
    """A PSPACE with an excess above 0; None if there is none."""
    _, space, _ = pbest(prime, sight, shares)
    return None if space == () else space


def is_pbreak(prime, sight, shares, thing):
    """Whether thing is a PSPACE with an excess above 0."""
    size, views = sight
    if not is_pspace(prime, size, thing):
        return False
    tops, bottom = on_one_bottom(shares)
    return len(thing) * bottom > dot(dims_at(prime, views, thing), tops)


def worse_primes(sight, shares):
    """The set of those of 2, 3, 5, 7 over which the SHARES do not hold."""
    return tuple([prime for prime in PRIMES if not pholds(prime, sight, shares)])


def is_group(thing):
    """Whether thing is a GROUP."""
    if not isinstance(thing, tuple) or len(thing) > MOST_ORDERS:
        return False
    return all([is_number(order) and order >= 1 for order in thing]) and members(thing) <= MOST_MEMBERS


def members(group):
    """How many members a GROUP has."""
    many = 1
    for order in group:
        many = many * order
    return many


def is_hom(group, thing):
    """Whether thing is a HOM of a GROUP."""
    if not isinstance(thing, tuple) or len(thing) != 2:
        return False
    orders, rows = thing
    if not is_group(orders) or not is_rows(rows, len(group)) or len(rows) != len(orders):
        return False
    return all([0 <= part < modulus and part * order % modulus == 0
                for modulus, row in zip(orders, rows) for part, order in zip(row, group)])


def is_subgroup(group, thing):
    """Whether thing is a SUBGROUP."""
    if not isinstance(thing, tuple) or thing == () or not all([is_row(part, len(group)) for part in thing]):
        return False
    if not all([0 <= part < order for one in thing for part, order in zip(one, group)]):
        return False
    return made_by(group, thing) == thing


def all_elements(group):
    """The set of all members of a GROUP."""
    found = [()]
    for order in group:
        found = [one + (part,) for one in found for part in range(order)]
    return tuple(found)


def hom_image(group, hom, part):
    """The set of what a HOM shows of a part."""
    orders, rows = hom
    return tuple(sorted({tuple([dot(row, one) % order for order, row in zip(orders, rows)]) for one in part}))


def mask_steps(group):
    """For each place the pair of how many bits one more there is, and the mask of all bits with 0 from there on."""
    found = []
    many = members(group)
    whole = (1 << many) - 1
    behind = many
    for order in group:
        block, behind = behind, behind // order
        found.append((order, behind, whole // ((1 << block) - 1)))
    return found


def moved_mask(steps, mask, one):
    """The mask of a part with a member of the GROUP added to each of its own."""
    for part, (order, unit, firsts) in zip(one, steps):
        if part > 0:
            # Numbers below order - part go up, the others round to the first ones.
            less = (order - part) * unit
            low = mask & ((1 << less) - 1) * firsts
            mask = low << part * unit | (mask ^ low) >> less
    return mask


def mask_with(steps, mask, one):
    """The mask of the least SUBGROUP that has the SUBGROUP of a mask and a member of the GROUP."""
    both = mask
    further = moved_mask(steps, mask, one)
    while further != mask:
        both = both | further
        further = moved_mask(steps, further, one)
    return both


def masked(everything, mask):
    """The part that a mask tells, of all members of a GROUP."""
    return tuple([one for place, one in enumerate(everything) if mask >> place & 1])


def place_of(steps, one):
    """The place of a member among all of its GROUP."""
    return sum([part * unit for part, (_, unit, _) in zip(one, steps)])


def made_by(group, part):
    """The least SUBGROUP that has a part."""
    steps = mask_steps(group)
    mask = 1
    for one in part:
        if not mask >> place_of(steps, one) & 1:
            mask = mask_with(steps, mask, one)
    return masked(all_elements(group), mask)


def prime_divisors(number):
    """The primes that divide a number, ascending."""
    found = []
    left = number
    for divisor in range(2, number + 1):
        if left % divisor == 0:
            found.append(divisor)
            while left % divisor == 0:
                left = left // divisor
    return found


def prime_masks(group, everything, prime):
    """For each power of a prime, from 1 on, the masks of the SUBGROUPS with so many members, as long as there are."""
    steps = mask_steps(group)
    # Only members some power of the prime times which is 0, with the place of the prime times each.
    chosen = []
    for one in everything:
        if not any([part * prime ** 6 % order for part, order in zip(one, group)]):
            times = [part * prime % order for part, order in zip(one, group)]
            chosen.append((one, place_of(steps, one), place_of(steps, times)))
    layers = []
    layer = [1]
    while layer:
        layers.append(layer)
        found = {}
        for mask in layer:
            seen = mask
            for one, place, further in chosen:
                # With so many times as many members: the prime times each of them is in this one.
                if not seen >> place & 1 and mask >> further & 1:
                    both = mask_with(steps, mask, one)
                    seen = seen | both
                    found[both] = True
        layer = list(found)
    return layers


def joined_mask(steps, everything, one, other):
    """The mask of all sums of a member of one part and a member of the other."""
    both = 0
    for member in masked(everything, other):
        both = both | moved_mask(steps, one, member)
    return both


def subgroups(group):
    """The list of all SUBGROUPS, those with fewer members first, then ascending."""
    steps = mask_steps(group)
    everything = all_elements(group)
    masks = [1]
    for prime in prime_divisors(len(everything)):
        several = [mask for layer in prime_masks(group, everything, prime) for mask in layer]
        masks = [joined_mask(steps, everything, mask, more) for mask in masks for more in several]
    found = [masked(everything, mask) for mask in masks]
    return [part for _, part in sorted([(len(part), part) for part in found])]


def residues(sight, number):
    """The GROUP of all tuples of numbers from 0 to below number, and the VIEWS modulo number as its HOMS."""
    size, views = sight
    group = (number,) * size
    homs = tuple([((number,) * len(view), tuple([tuple([part % number for part in row]) for row in view]))
                  for view in views])
    return held_homs(group, homs)


def held_homs(group, homs):
    """The pair of both; raises TooMany if this is no GROUP, these are no HOMS, or more than 4."""
    if not is_group(group) or len(homs) > MOST_ORDERS or not all([is_hom(group, hom) for hom in homs]):
        raise TooMany()
    return group, homs


def part_worth(group, homs, shares, part):
    """The worth of a part as POWERS."""
    worth = [(len(part), (1, 1))]
    for hom, share in zip(homs, shares):
        worth.append((len(hom_image(group, hom, part)), fraction_times(share, (-1, 1))))
    return tuple(worth)


def kernel_mask(group, hom):
    """The mask of the members of which a HOM shows 0s alone."""
    mask = (1 << members(group)) - 1
    for modulus, row in zip(hom[0], hom[1]):
        values = [0]
        for order, step in zip(group, row):
            values = [value + times * step for value in values for times in range(order)]
        mask = mask & sum([1 << place for place, value in enumerate(values) if value % modulus == 0])
    return mask


def best_masks(group, homs, shares):
    """All members; the masks of the SUBGROUPS of the greatest worth that lies in all such, and that has all such."""
    steps = mask_steps(group)
    everything = all_elements(group)
    kernels = [kernel_mask(group, hom) for hom in homs]
    low, high = 1, 1
    # The worth of a SUBGROUP is that of its parts by primes, multiplied.
    for prime in prime_divisors(len(everything)):
        best = best_of(prime_masks(group, everything, prime), prime, kernels, shares)
        low = joined_mask(steps, everything, low, best[0])
        high = joined_mask(steps, everything, high, best[-1])
    return everything, low, high


def best_of(layers, prime, kernels, shares):
    """Of the masks of SUBGROUPS with powers of a prime as their numbers those of the greatest worth."""
    tops, bottom = on_one_bottom(shares)
    powers = [1]
    for _ in layers:
        powers.append(powers[-1] * prime)
    most, best = 0, []
    for count, layer in enumerate(layers):
        for mask in layer:
            # What the prime's exponent in the worth comes to, times the bottom.
            lost = [count - powers.index(bits_in(mask & kernel)) for kernel in kernels]
            gain = count * bottom - dot(tops, lost)
            if gain > most:
                most, best = gain, []
            if gain == most:
                best.append(mask)
    return best


def best_subgroups(group, homs, shares):
    """The SUBGROUP of the greatest worth that lies in all such, and the one that has all such."""
    everything, low, high = best_masks(group, homs, shares)
    return masked(everything, low), masked(everything, high)


def least_number(group, homs, shares):
    """The least number so many times the product for its images no part has more members than: as POWERS."""
    low, _ = best_subgroups(group, homs, shares)
    return part_worth(group, homs, shares, low)


def groups_hold(group, homs, shares):
    """Whether no part has more members than the product for its images."""
    _, low, _ = best_masks(group, homs, shares)
    return low == 1


def groups_beside(group, homs, other, more):
    """The GROUP of both orders, and its HOMS: each has the orders and ROWS of one of homs, then of one of more."""
    if len(homs) != len(more):
        raise Unfit()
    joined = [hom_beside(hom, len(group), also, len(other)) for hom, also in zip(frozen(homs), frozen(more))]
    return held_homs(frozen(group) + frozen(other), tuple(joined))


def hom_beside(hom, size, also, width):
    """The HOM that has the orders and ROWS of both, each with 0s at the other's places."""
    ahead = tuple([row + (0,) * width for row in hom[1]])
    behind = tuple([(0,) * size + row for row in also[1]])
    return hom[0] + also[0], ahead + behind
