"""Numbers, FRACTIONS, ROWS and tuples: what all other files share."""

from math import gcd, lcm


def is_number(thing):
    """Whether thing is a number; True and False are none."""
    return isinstance(thing, int) and not isinstance(thing, bool)


def is_row(thing, size):
    """Whether thing is a tuple of so many numbers."""
    if not isinstance(thing, tuple) or len(thing) != size:
        return False
    return all([is_number(part) for part in thing])


def is_fraction(thing):
    """Whether thing is a FRACTION, in lowest terms."""
    return is_row(thing, 2) and thing[1] >= 1 and gcd(thing[0], thing[1]) == 1


def frozen(value):
    """The same value with tuples for lists, at any depth."""
    if isinstance(value, (list, tuple)):
        return tuple([frozen(part) for part in value])
    return value


def fraction(top, bottom):
    """The FRACTION of top divided by bottom, a number from 1."""
    common = gcd(top, bottom)
    return (top // common, bottom // common)


def fraction_times(one, other):
    """Both FRACTIONS multiplied."""
    return fraction(one[0] * other[0], one[1] * other[1])


def dot(row, point):
    """What a ROW of numbers shows of a POINT of numbers."""
    return sum([part * number for part, number in zip(row, point)])


def combined(times, rows, size):
    """The ROW of this size that comes of rows, each taken so often as told, added up."""
    total = [0] * size
    for much, row in zip(times, rows):
        total = [before + much * part for before, part in zip(total, row)]
    return tuple(total)


def unit_rows(size):
    """The TABLE of so many ROWS, each with 1 at its own place and 0 at all others."""
    return tuple([tuple([int(row == place) for place in range(size)]) for row in range(size)])


def turned(rows, size):
    """The columns of rows of this size, as ROWS."""
    return tuple([tuple([row[place] for row in rows]) for place in range(size)])


def fraction_plus(one, other):
    """Both FRACTIONS added up."""
    return fraction(one[0] * other[1] + other[0] * one[1], one[1] * other[1])


def is_at_most(one, other):
    """Whether one FRACTION is at most the other."""
    return one[0] * other[1] <= other[0] * one[1]


def on_one_bottom(fractions):
    """The tops of FRACTIONS when all have one bottom; and this."""
    bottom = 1
    for _, under in fractions:
        if bottom % under != 0:
            bottom = lcm(bottom, under)
    return [top * (bottom // under) for top, under in fractions], bottom


def fraction_sum(times, fractions):
    """The FRACTION that FRACTIONS come to, each taken so often as told by a number."""
    tops, bottom = on_one_bottom(fractions)
    return fraction(dot(times, tops), bottom)


def fraction_total(fractions):
    """The FRACTION that FRACTIONS come to."""
    return fraction_sum([1] * len(fractions), fractions)


def mixed_sum(parts, many):
    """Of pairs (FRACTION, tuple of so many FRACTIONS) the tuple of the sums of both multiplied, place by place."""
    total = [(0, 1)] * many
    for much, fractions in parts:
        total = [fraction_plus(before, fraction_times(much, part)) for before, part in zip(total, fractions)]
    return tuple(total)


def are_fractions(thing, many):
    """Whether thing is a tuple of so many FRACTIONS, all from 0."""
    if not isinstance(thing, tuple) or len(thing) != many:
        return False
    return all([is_fraction(part) and part[0] >= 0 for part in thing])


def are_shares(thing, many):
    """Whether thing is a tuple of so many FRACTIONS, all from 0 to 1."""
    return are_fractions(thing, many) and all([top <= bottom for top, bottom in thing])


def is_number_set(thing, many):
    """Whether thing is a set of numbers from 0 to below many."""
    if not isinstance(thing, tuple) or not all([is_number(part) and 0 <= part < many for part in thing]):
        return False
    return all([part < later for part, later in zip(thing, thing[1:])])


def is_measure(thing, size):
    """Whether thing is a set of pairs of a tuple of so many numbers, none twice, and a FRACTION above 0."""
    if not isinstance(thing, tuple) or not all([isinstance(part, tuple) and len(part) == 2 for part in thing]):
        return False
    if not all([is_row(point, size) and is_fraction(much) and much[0] > 0 for point, much in thing]):
        return False
    return all([part[0] < later[0] for part, later in zip(thing, thing[1:])])


def cut_corners(corners, plane, bit, least):
    """The corners of what is left of a body when a plane cuts off all where it shows less than 0.

    Corners are pairs (point, tight): a tuple of numbers, the last one the bottom of the others, and the bits of all
    planes so far that show 0 of it. Two are the ends of an edge if no third one is on all planes, at least so many,
    on which both are.
    """
    values = [dot(plane, point) for point, _ in corners]
    above = [(corner, value) for corner, value in zip(corners, values) if value > 0]
    below = [(corner, value) for corner, value in zip(corners, values) if value < 0]
    kept = [corner for corner, _ in above]
    kept.extend([(point, tight | bit) for (point, tight), value in zip(corners, values) if value == 0])
    masks = [tight for _, tight in corners]
    for (point, tight), value in above:
        for (beyond, touched), less in below:
            shared = tight & touched
            if bits_in(shared) >= least and sum([mask & shared == shared for mask in masks]) == 2:
                between = [value * part - less * other for part, other in zip(beyond, point)]
                kept.append((divided(between), shared | bit))
    return kept


def bits_in(number):
    """How many bits of a number are 1."""
    text = f"{number:b}"
    return text.count("1")


def divided(numbers):
    """Numbers divided by what divides them all."""
    common = 0
    for number in numbers:
        common = gcd(common, number)
    return tuple([number // common for number in numbers])


def fractions_of(point):
    """The FRACTIONS told by a tuple of numbers, the last one the bottom of the others."""
    return tuple([fraction(top, point[-1]) for top in point[:-1]])


def best_weights(columns, gains, limits):
    """Weights from 0 for columns of numbers, together at each place at most its limit, with the greatest sum of gains.

    Returns a number size, and triples (column, row, value), one for each place: value / size is the weight of this
    column, made of the limits, each so often as row / size tells; numbers from len(columns) on stand for what is left
    of the limits. None if the sum can be as great as one likes.
    """
    many, places = len(columns), len(limits)
    units = unit_rows(places)
    table = [[column[k] for column in columns] + list(units[k]) + [limits[k]] for k in range(places)]
    goal = [-gain for gain in gains] + [0] * (places + 1)
    chosen = [many + place for place in range(places)]
    size = 1
    # Simplex steps that stay whole; always the first columns are taken (Bland), so they come to an end.
    while True:
        entering = first_below_0(goal)
        if entering is None:
            return size, [(number, row[many:-1], row[-1]) for number, row in zip(chosen, table)]
        leaving = first_to_leave(table, chosen, entering)
        if leaving is None:
            return None
        lead = table[leaving]
        goal = cleared_row(goal, lead, entering, size)
        table = [lead if k == leaving else cleared_row(table[k], lead, entering, size) for k in range(places)]
        chosen[leaving] = entering
        size = lead[entering]


def first_below_0(numbers):
    """The place of the first number below 0; None if there is none."""
    for place, number in enumerate(numbers):
        if number < 0:
            return place
    return None


def first_to_leave(table, chosen, entering):
    """The row whose value is used up first if the entering column is taken; of equal ones that of the first column."""
    leaving = None
    for k, row in enumerate(table):
        if row[entering] > 0:
            if leaving is None:
                leaving = k
                continue
            best = table[leaving]
            order = row[-1] * best[entering] - best[-1] * row[entering]
            if order < 0 or order == 0 and chosen[k] < chosen[leaving]:
                leaving = k
    return leaving


def cleared_row(row, lead, entering, size):
    """A row made 0 at the entering place by the lead row, all rows being so many times as great."""
    pivot, less = lead[entering], row[entering]
    return [(pivot * part - less * other) // size for part, other in zip(row, lead)]


def inverted(rows):
    """A number size, not 0, and a table of numbers by which as many ROWS as they are long come to size times units.

    The table times rows is size times the unit ROWS; the rank of rows has to be their number.
    """
    many = len(rows)
    table = [list(row) + list(unit) for row, unit in zip(rows, unit_rows(many))]
    size = 1
    for place in range(many):
        # Steps that stay whole, as with best_weights.
        chosen = [k for k in range(place, many) if table[k][place] != 0][0]
        table[place], table[chosen] = table[chosen], table[place]
        lead = table[place]
        table = [lead if k == place else cleared_row(table[k], lead, place, size) for k in range(many)]
        size = lead[place]
    return size, [row[many:] for row in table]
