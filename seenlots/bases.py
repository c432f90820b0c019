"""Views of one ROW each: bases and flats, mixes of bases, and what they cost."""

from seenlots.errors import NoNumber, Unfit
from seenlots.rows import basis_with, rank_of
from seenlots.values import best_weights, fraction, fraction_sum, fraction_total, is_at_most, is_fraction
from seenlots.values import is_number_set, on_one_bottom


def line_sight(size, rows):
    """The SIGHT of a VIEW of each ROW alone."""
    return size, tuple([(tuple(row),) for row in rows])


def line_rank(rows, chosen):
    """The rank of the chosen ROWS."""
    return rank_of([rows[number] for number in chosen])


def line_closed(rows, chosen):
    """The flat of the same rank that has the chosen numbers."""
    basis = []
    for number in chosen:
        basis = basis_with(basis, rows[number])
    return tuple([number for number, row in enumerate(rows) if len(basis_with(basis, row)) == len(basis)])


def all_ranks(rows):
    """For each set of numbers of rows its rank; the set is told by the number that has a bit for each of them."""
    bases = [[]]
    for row in rows:
        bases = bases + [basis_with(basis, row) for basis in bases]
    return [len(basis) for basis in bases]


def members(mask, many):
    """The numbers from 0 to below many whose bits are set."""
    return tuple([number for number in range(many) if mask >> number & 1])


def told_flats(rows):
    """All flats and their ranks, ascending."""
    ranks = all_ranks(rows)
    bits = [1 << number for number in range(len(rows))]
    found = []
    for mask, rank in enumerate(ranks):
        if all([mask & bit or ranks[mask | bit] > rank for bit in bits]):
            found.append((members(mask, len(rows)), rank))
    return sorted(found)


def line_flats(rows):
    """The ascending list of all flats."""
    return [flat for flat, _ in told_flats(rows)]


def is_basis(size, rows, thing):
    """Whether thing is a basis."""
    return is_number_set(thing, len(rows)) and len(thing) == size and line_rank(rows, thing) == size


def all_bases(size, rows):
    """The ascending list of all bases."""
    several = [members(mask, len(rows)) for mask, rank in enumerate(all_ranks(rows)) if rank == size]
    return sorted([chosen for chosen in several if len(chosen) == size])


def may_leave(size, rows, basis, number):
    """The set of the members of a basis in whose place this number can be put."""
    if not 0 <= number < len(rows):
        raise NoNumber(number)
    if not is_basis(size, rows, tuple(basis)):
        raise Unfit()
    if number in basis:
        return (number,)
    # Only the members without which the others do not make its ROW.
    return tuple([member for member in basis if line_rank(rows, others_than(member, basis) + [number]) == size])


def others_than(member, basis):
    """The other members of a basis."""
    return [other for other in basis if other != member]


def lacking(size, flats, shares):
    """For each flat, told with its rank, how much the other shares lack of the size less this; times a bottom."""
    tops, bottom = on_one_bottom(shares)
    total = sum(tops)
    return [(size - rank) * bottom - total + sum([tops[number] for number in flat]) for flat, rank in flats]


def line_holds(size, rows, shares):
    """Whether the SHARES hold in the line_sight."""
    return max(lacking(size, told_flats(rows), shares)) <= 0


def base_mix(size, rows, shares):
    """A MIX whose sums are nowhere above the shares; None if there is none."""
    several = all_bases(size, rows)
    tops, bottom = on_one_bottom(shares)
    columns = [[int(number in basis) for number in range(len(rows))] for basis in several]
    under, used = best_weights(columns, [1] * len(several), tops)
    weights = [(several[number], value) for number, _, value in used if number < len(several) and value > 0]
    total = sum([value for _, value in weights])
    if total < under * bottom or total == 0:
        return None
    return tuple(sorted([(basis, fraction(value, total)) for basis, value in weights]))


def is_base_mix(size, rows, shares, thing):
    """Whether thing is such a MIX."""
    if not isinstance(thing, tuple) or not all([isinstance(part, tuple) and len(part) == 2 for part in thing]):
        return False
    if not all([is_basis(size, rows, basis) and is_fraction(weight) and weight[0] > 0 for basis, weight in thing]):
        return False
    bases = [basis for basis, _ in thing]
    if not all([basis < later for basis, later in zip(bases, bases[1:])]):
        return False
    if fraction_total([weight for _, weight in thing]) != (1, 1):
        return False
    sums = [fraction_total([weight for basis, weight in thing if number in basis]) for number in range(len(rows))]
    return all([is_at_most(part, share) for part, share in zip(sums, shares)])


def short_flat(size, rows, shares):
    """A flat for which the shares of the others come to less than the size less its rank; None if there is none."""
    flats = told_flats(rows)
    for (flat, _), lack in zip(flats, lacking(size, flats, shares)):
        if lack > 0:
            return flat
    return None


def is_flat(rows, thing):
    """Whether thing is a flat."""
    return is_number_set(thing, len(rows)) and line_closed(rows, thing) == thing


def is_short_flat(size, rows, shares, thing):
    """Whether thing is such a flat."""
    return is_flat(rows, thing) and lacking(size, [(thing, line_rank(rows, thing))], shares)[0] > 0


def even_flats(size, rows):
    """Triples (size less rank, how many numbers are in it not, flat), one for each flat without the rank size."""
    if rank_of(rows) < size:
        raise Unfit()
    return [(size - rank, len(rows) - len(flat), flat) for flat, rank in told_flats(rows) if rank < size]


def even_line(size, rows):
    """The least FRACTION that, as share of each ROW, holds."""
    best = (0, 1)
    for lack, others, _ in even_flats(size, rows):
        if lack * best[1] > best[0] * others:
            best = (lack, others)
    return fraction(best[0], best[1])


def tight_flat(size, rows):
    """The least flat for which no lesser FRACTION is enough."""
    top, bottom = even_line(size, rows)
    tight = [flat for lack, others, flat in even_flats(size, rows) if lack * bottom == top * others]
    _, least = min([(len(flat), flat) for flat in tight])
    return least


def cheap_basis(size, rows, heights):
    """Of the bases with the least sum of heights the least."""
    several = all_bases(size, rows)
    if not several:
        raise Unfit()
    tops, _ = on_one_bottom(heights)
    _, best = min([(sum([tops[number] for number in basis]), basis) for basis in several])
    return best


def cost_steps(size, rows, heights):
    """STEPS of the worth of the cheapest basis."""
    if rank_of(rows) < size:
        raise Unfit()
    tops, bottom = on_one_bottom(heights)
    steps = []
    before = 0
    # Up to each height the flat of the ROWS with less: so long it lacks of a basis what its rank is less.
    for top in sorted(set(tops)):
        flat = line_closed(rows, [number for number, less in enumerate(tops) if less < top])
        if top > 0 and line_rank(rows, flat) < size:
            if steps and steps[-1][0] == flat:
                steps[-1] = (flat, steps[-1][1] + top - before)
            else:
                steps.append((flat, top - before))
        before = top
    return tuple([(flat, fraction(times, bottom)) for flat, times in steps])


def is_cost_steps(size, rows, heights, thing):
    """Whether thing is such STEPS; False without a basis."""
    if rank_of(rows) < size or not isinstance(thing, tuple):
        return False
    if not all([is_step(size, rows, part) for part in thing]):
        return False
    flats = [flat for flat, _ in thing]
    if not all([is_less_flat(flat, more) for flat, more in zip(flats, flats[1:])]):
        return False
    for number, height in enumerate(heights):
        if not is_at_most(fraction_total([weight for flat, weight in thing if number not in flat]), height):
            return False
    cost = fraction_total([heights[number] for number in cheap_basis(size, rows, heights)])
    return fraction_sum([size - line_rank(rows, flat) for flat in flats], [weight for _, weight in thing]) == cost


def is_less_flat(flat, more):
    """Whether a flat is within another one and unlike it."""
    return len(flat) < len(more) and all([number in more for number in flat])


def is_step(size, rows, thing):
    """Whether thing is a pair of a flat of a rank below the size and a FRACTION above 0."""
    if not isinstance(thing, tuple) or len(thing) != 2:
        return False
    flat, weight = thing
    return is_flat(rows, flat) and line_rank(rows, flat) < size and is_fraction(weight) and weight[0] > 0
