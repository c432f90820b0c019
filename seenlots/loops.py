"""Nests of loops: which CELLS their points touch, and how many of these must be loaded into a small store."""

from seenlots.errors import NoPaper, TooMany, Unfit
from seenlots.flags import flag_rows
from seenlots.holds import holds
from seenlots.powers import powers_of, sign_of, whole_part
from seenlots.rows import completed, is_unit_table, stepped, turner
from seenlots.stores import best_of_orders, fence_of, kept_of, stretches_of, unpassed
from seenlots.values import bits_in, combined, fraction_total, frozen, is_number, is_number_set, is_row
from seenlots.views import is_view, seen_by

MOST_ORDERED = 6


def is_nest(thing):
    """Whether thing is a NEST."""
    if not isinstance(thing, tuple) or len(thing) != 2:
        return False
    ranges, views = thing
    if not isinstance(ranges, tuple) or ranges == () or not isinstance(views, tuple):
        return False
    if not all([is_number(part) and part >= 1 for part in ranges]):
        return False
    return all([is_view(view, len(ranges)) for view in views])


def nest_points(nest):
    """The list of the points of a NEST, ascending."""
    found = [()]
    for most in nest[0]:
        found = [point + (number,) for point in found for number in range(most)]
    return found


def cells_at(views, point):
    """The CELLS that are touched at a POINT."""
    return [(number, seen_by(view, point)) for number, view in enumerate(views)]


def touched(nest, lot):
    """The set of the CELLS that points of a NEST touch."""
    _, views = nest
    return tuple(sorted({cell for point in lot for cell in cells_at(views, point)}))


def is_order(nest, thing):
    """Whether thing is an ORDER of a NEST."""
    if not isinstance(thing, tuple) or not all([is_row(point, len(nest[0])) for point in thing]):
        return False
    many = 1
    for most in nest[0]:
        many = many * most
    return len(thing) == many and sorted(thing) == nest_points(nest)


def held_room(nest, store):
    """The room of a store; raises Unfit if it is less than the number of arrays."""
    _, views = nest
    if store < len(views):
        raise Unfit()
    return store - len(views)


def held_order(nest, order, store):
    """For each place of an ORDER the CELLS that are touched, and the room; raises Unfit for what is none."""
    if not is_order(nest, frozen(order)):
        raise Unfit()
    room = held_room(nest, store)
    return [cells_at(nest[1], point) for point in order], room


def fewest_loads(nest, order, store):
    """The least number of loads by any KEEPING."""
    rows, room = held_order(nest, order, store)
    kept, _, _ = kept_of(rows, room)
    return len(rows) * len(nest[1]) - len(kept)


def keeping(nest, order, store):
    """A KEEPING with the least number of loads."""
    rows, room = held_order(nest, order, store)
    kept, _, _ = kept_of(rows, room)
    return tuple(sorted(kept))


def is_keeping(nest, order, store, thing):
    """Whether thing is such a KEEPING."""
    rows, room = held_order(nest, order, store)
    if not isinstance(thing, tuple) or not all([is_told_stretch(part) for part in thing]):
        return False
    if not all([part < later for part, later in zip(thing, thing[1:])]):
        return False
    ends = {(cell, place): later for cell, place, later in stretches_of(rows)}
    if not all([part in ends for part in thing]):
        return False
    passed = [0] * len(rows)
    for part in thing:
        for between in range(part[1] + 1, ends[part]):
            passed[between] = passed[between] + 1
    kept, _, _ = kept_of(rows, room)
    return len(thing) == len(kept) and max(passed) <= room


def is_told_stretch(thing):
    """Whether thing is a pair of a pair of a number and a tuple of numbers, and a number."""
    if not isinstance(thing, tuple) or len(thing) != 2:
        return False
    cell, place = thing
    if not is_number(place) or not isinstance(cell, tuple) or len(cell) != 2:
        return False
    return is_number(cell[0]) and isinstance(cell[1], tuple) and is_row(cell[1], len(cell[1]))


def fence(nest, order, store):
    """A FENCE."""
    rows, room = held_order(nest, order, store)
    return fence_of(rows, room)


def is_fence(nest, order, store, thing):
    """Whether thing is a FENCE."""
    rows, room = held_order(nest, order, store)
    if not is_number_set(thing, len(rows)):
        return False
    kept, _, _ = kept_of(rows, room)
    return room * len(thing) + unpassed(rows, thing) == len(kept)


def best_ordered(nest, store):
    """The least loads of any ORDER, and the least ORDER that has them; raises TooMany for too many points."""
    room = held_room(nest, store)
    points = nest_points(nest)
    if len(points) > MOST_ORDERED:
        raise TooMany()
    loads, order = best_of_orders([cells_at(nest[1], point) for point in points], room)
    return loads, tuple([points[number] for number in order])


def best_loads(nest, store):
    """The least loads of any ORDER."""
    loads, _ = best_ordered(nest, store)
    return loads


def best_order(nest, store):
    """The least ORDER with the least loads."""
    _, order = best_ordered(nest, store)
    return order


def best_numbers(shares, cells):
    """For all CELLS from as many as shares up the numbers that come to so many with the greatest product.

    What one more makes of a number's power is the less the greater it is: so always the one more that makes most is
    taken.
    """
    numbers = [1] * len(shares)
    found = [tuple(numbers)]
    usable = [number for number, (top, _) in enumerate(shares) if top > 0]
    for _ in range(cells - len(shares)):
        if usable:
            best = usable[0]
            for number in usable[1:]:
                if makes_more(shares[number], numbers[number], shares[best], numbers[best]):
                    best = number
            numbers[best] = numbers[best] + 1
        found.append(tuple(numbers))
    return found


def makes_more(share, number, other, also):
    """Whether one more makes more of a number to the power of a share than of another one to that of its share."""
    one, two = share[0] * other[1], other[0] * share[1]
    if one == two:
        return number < also
    return sign_of([(number + 1, one), (also, two), (number, -one), (also + 1, -two)]) > 0


def most_done(shares, cells):
    """The whole part of the greatest product of numbers that come to at most so many CELLS, to the powers of shares."""
    if cells < len(shares):
        return 0
    return whole_part(powers_of(best_numbers(shares, cells)[-1], shares))


def told_loads(nest, shares, store):
    """So many loads at least has each ORDER, as shares that hold tell."""
    ranges, views = nest
    held_room(nest, store)
    if not holds((len(ranges), views), shares):
        raise NoPaper()
    points = nest_points(nest)
    most = len(touched(nest, points))
    several = best_numbers(shares, store + store)[store + 1 - len(shares):]
    for more, numbers in enumerate(several, 1):
        times = -(-len(points) // whole_part(powers_of(numbers, shares)))
        most = max(most, more * (times - 1) + 1)
    return most


def held_counts(nest, base):
    """The points of a NEST and the counts of each by a base; raises Unfit for what is none."""
    size = len(nest[0])
    rows = frozen(base)
    if not is_unit_table(rows, size):
        raise Unfit()
    back = turner(rows)
    points = nest_points(nest)
    return points, [combined(point, back, size) for point in points]


def block_of(count, sides):
    """What tells the block of a POINT, by its counts."""
    return tuple([part // side for part, side in zip(count, sides)])


def blocked(nest, base, sides):
    """The ORDER by blocks."""
    points, counts = held_counts(nest, base)
    told = sorted([(block_of(count, sides), count, point) for point, count in zip(points, counts)])
    return tuple([point for _, _, point in told])


def cell_masks(nest, points):
    """For each point the bits of the CELLS that it touches."""
    table = {}
    found = []
    for point in points:
        found.append(sum([1 << table.setdefault(cell, len(table)) for cell in cells_at(nest[1], point)]))
    return found


def block_cells(nest, base, sides):
    """For each block, in the order of blocked, how many CELLS its points touch."""
    points, counts = held_counts(nest, base)
    table = block_masks([block_of(count, sides) for count in counts], cell_masks(nest, points))
    return tuple([bits_in(mask) for _, mask in sorted(table.items())])


def block_masks(blocks, masks):
    """A table from each block to the bits of the CELLS that its points touch."""
    table = {}
    for block, mask in zip(blocks, masks):
        table[block] = table.get(block, 0) | mask
    return table


def best_sides(nest, base, store):
    """The sides by which no block touches too many CELLS with the least sum of block_cells, of these the least."""
    held_room(nest, store)
    points, counts = held_counts(nest, base)
    masks = cell_masks(nest, points)
    # Blocks are told by numbers here, of whose digits by this base none is greater than half of it.
    digits = 2 * max([abs(part) for count in counts for part in count]) + 1
    several = [((), [0] * len(points))]
    for place, most in enumerate(nest[0]):
        parts = [[count[place] // side for count in counts] for side in range(1, most + 1)]
        several = [(sides + (k + 1,), [digits * block + more for block, more in zip(blocks, part)])
                   for sides, blocks in several for k, part in enumerate(parts)]
    least, best = None, None
    for sides, blocks in several:
        cells = [bits_in(mask) for mask in block_masks(blocks, masks).values()]
        if max(cells) <= store and (best is None or sum(cells) < least):
            least, best = sum(cells), sides
    return best


def flag_base(size, flag):
    """A base that follows a FLAG."""
    return completed(flag_rows(flag), size)


def is_flag_base(size, flag, thing):
    """Whether thing is a base that follows a FLAG."""
    if not is_unit_table(thing, size):
        return False
    return all([stepped(thing[:len(space)]) == space for space, _ in frozen(flag)])


def flag_sides(size, flag, number):
    """For each place the whole part of number to the power of the weights of the SPACES with a greater dim."""
    weights = [fraction_total([weight for space, weight in flag if len(space) > place]) for place in range(size)]
    return tuple([whole_part([(number, weight)]) for weight in weights])


def flag_blocks(nest, flag, base, store):
    """The greatest number up to store by whose flag_sides no block touches more than store CELLS."""
    held_room(nest, store)
    size = len(nest[0])
    if not is_flag_base(size, flag, frozen(base)):
        raise Unfit()
    points, counts = held_counts(nest, base)
    masks = cell_masks(nest, points)
    for number in range(store, 1, -1):
        sides = flag_sides(size, flag, number)
        table = block_masks([block_of(count, sides) for count in counts], masks)
        if max([bits_in(mask) for mask in table.values()]) <= store:
            return number
    return 1
