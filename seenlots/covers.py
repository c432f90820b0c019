"""Views that leave out places: covers, packings, boxes, and lots pressed together."""

from seenlots.bounds import least_ones
from seenlots.errors import NoNumber, Unfit
from seenlots.values import are_fractions, best_weights, cut_corners, fraction, fraction_sum, fraction_total
from seenlots.values import fractions_of, frozen, on_one_bottom, unit_rows


def cover_sight(size, sets):
    """The SIGHT of the VIEWS that show the numbers at the places of sets."""
    units = unit_rows(size)
    return size, tuple([tuple([units[place] for place in places]) for places in sets])


def marks(size, sets):
    """For each place a list of numbers, for each of sets 1 if it has the place, else 0."""
    return [[int(place in places) for places in sets] for place in range(size)]


def held_marks(size, sets):
    """The like; raises Unfit if a place is in none of sets."""
    rows = marks(size, sets)
    if not all([any(row) for row in rows]):
        raise Unfit()
    return rows


def is_cover(size, sets, thing):
    """Whether thing is a cover."""
    if not are_fractions(thing, len(sets)):
        return False
    tops, bottom = on_one_bottom(thing)
    return all([sum([top for top, mark in zip(tops, row) if mark]) >= bottom for row in marks(size, sets)])


def like_share(size, sets):
    """The least FRACTION that, as share of each, is a cover."""
    return 1, min([sum(row) for row in held_marks(size, sets)])


def corner_covers(size, sets):
    """The set of all corners."""
    rows = held_marks(size, sets)
    many = len(sets)
    # The corner of 0s, and ways without end along each number: their bottom is 0.
    units = unit_rows(many + 1)
    found = [(units[place], ((2 << many) - 1) ^ (1 << place)) for place in range(many + 1)]
    for place, row in enumerate(rows):
        found = cut_corners(found, row + [-1], 1 << (many + 1 + place), many - 1)
    return tuple(sorted([fractions_of(point) for point, _ in found if point[-1] > 0]))


def costs(several, heights):
    """The sums of several tuples of FRACTIONS times HEIGHTS."""
    tops, bottom = on_one_bottom(heights)
    sums = [fraction_sum(tops, fractions) for fractions in several]
    return [fraction(top, under * bottom) for top, under in sums]


def least_cost(size, sets, heights):
    """The least sum of a cover times heights."""
    return fraction_total(best_packing(size, sets, heights))


def least_cover(size, sets, heights):
    """The least corner with this sum."""
    several = corner_covers(size, sets)
    least = least_cost(size, sets, heights)
    return [cover for cover, cost in zip(several, costs(several, heights)) if cost == least][0]


def best_packing(size, sets, heights):
    """A packing with this sum."""
    columns = held_marks(size, sets)
    tops, bottom = on_one_bottom(heights)
    under, used = best_weights(columns, [1] * size, tops)
    packing = [(0, 1)] * size
    for place, _, value in used:
        if place < size:
            packing[place] = fraction(value, under * bottom)
    return tuple(packing)


def is_packing(size, sets, heights, thing):
    """Whether thing is a packing of heights."""
    if not are_fractions(thing, size):
        return False
    sums = [fraction_total([thing[place] for place in places]) for places in sets]
    return all([top * height[1] <= height[0] * bottom for (top, bottom), height in zip(sums, heights)])


def cover_powers(size, sets, sizes):
    """The POWERS of the sizes to the least corner that makes their product least, but those to 0."""
    best = least_ones(sizes, corner_covers(size, sets))[0]
    return tuple([(number, share) for number, share in zip(sizes, best) if share[0] > 0])


def best_box(size, sets, sizes):
    """The sides with the greatest product such that those of each set's places have a product of at most its size."""
    held_marks(size, sets)
    left = list(sizes)
    need = greatest_product(sets, left, 0, size)
    sides = []
    for place in range(size):
        # The least side with which the greatest product can still be reached.
        side = 1
        rest = left_over(sets, left, place, side)
        while side * product_cap(sets, rest, place + 1, size) < need or (
                side * greatest_product(sets, rest, place + 1, size) < need):
            side = side + 1
            rest = left_over(sets, left, place, side)
        sides.append(side)
        left, need = rest, need // side
    return tuple(sides)


def left_over(sets, left, place, side):
    """What is left of the sizes of sets for the places behind this one, which has this side."""
    return [most // side if place in places else most for places, most in zip(sets, left)]


def greatest_side(sets, left, place):
    """The greatest side that this place can have."""
    return min([most for places, most in zip(sets, left) if place in places])


def product_cap(sets, left, first, size):
    """At least the greatest product of the sides from the first place on."""
    tops = [greatest_side(sets, left, place) for place in range(first, size)]
    best = product_of(tops)
    for places, most in zip(sets, left):
        best = min(best, most * product_of([top for place, top in enumerate(tops, first) if place not in places]))
    return best


def product_of(numbers):
    """Numbers multiplied."""
    result = 1
    for number in numbers:
        result = result * number
    return result


def greatest_product(sets, left, place, size):
    """The greatest product of the sides from this place on."""
    if place == size:
        return 1
    best = 0
    for side in range(greatest_side(sets, left, place), 0, -1):
        rest = left_over(sets, left, place, side)
        if side * product_cap(sets, rest, place + 1, size) > best:
            best = max(best, side * greatest_product(sets, rest, place + 1, size))
    return best


def meeting_lot(size, sets, images):
    """The set of all POINTS that show by each VIEW one of its images."""
    held_marks(size, sets)
    found = [{}]
    for places, image in zip(sets, images):
        found = [joined for told in found for seen in image for joined in joined_numbers(told, places, seen)]
    return tuple(sorted([tuple([told[place] for place in range(size)]) for told in found]))


def joined_numbers(told, places, seen):
    """The numbers told of places and those seen at some, in a list; an empty one if they are not alike."""
    joined = {place: told[place] for place in told}
    for place, number in zip(places, seen):
        if joined.setdefault(place, number) != number:
            return []
    return [joined]


def pressed(lot, place):
    """The POINTS of each line along a place made those with 0, 1 and so on there."""
    if not 0 <= place < len(lot[0]):
        raise NoNumber(place)
    lines = {}
    for point in lot:
        line = (tuple(point[:place]), tuple(point[place + 1:]))
        lines[line] = lines.get(line, 0) + 1
    found = [ahead + (number,) + behind for (ahead, behind), many in lines.items() for number in range(many)]
    return tuple(sorted(found))


def pressed_down(lot):
    """A LOT pressed at place 0, 1 and so on, again and again, until nothing changes."""
    before, after = None, frozen(lot)
    while before != after:
        before = after
        for place in range(len(lot[0])):
            after = pressed(after, place)
    return after


def is_pressed(lot):
    """Whether no pressing changes the LOT."""
    held = frozen(lot)
    return all([pressed(held, place) == held for place in range(len(held[0]))])
