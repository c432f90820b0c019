"""Rows of whole numbers: stepped TABLES, their whole sums, and papers for both answers."""

from math import gcd

from seenlots.errors import Unfit
from seenlots.values import combined, dot, fraction, frozen, is_fraction, is_row, turned, unit_rows


def is_rows(thing, size):
    """Whether thing is a tuple, maybe (), of ROWS of this length."""
    return isinstance(thing, tuple) and all([is_row(row, size) for row in thing])


def is_stepped(thing, size):
    """Whether thing is a stepped TABLE of ROWS of this length."""
    if not is_rows(thing, size):
        return False
    place = -1
    for count, row in enumerate(thing):
        lead = lead_of(row)
        if lead <= place or lead == size or row[lead] < 0:
            return False
        if not all([0 <= above[lead] < row[lead] for above in thing[:count]]):
            return False
        place = lead
    return True


def lead_of(row):
    """The place of the first number that is not 0; the length if there is none."""
    for place, part in enumerate(row):
        if part != 0:
            return place
    return len(row)


def stepped(rows):
    """The stepped TABLE with the same whole sums."""
    if len(rows) == 0:
        return ()
    table, count = step_rows(rows, len(rows[0]))
    return frozen(table[:count])


def step_rows(rows, width):
    """Rows after whole row operations that step their first places, so many; and how many have a lead there."""
    table = [list(row) for row in rows]
    count = 0
    for place in range(width):
        clear_below(table, count, place)
        if count < len(table) and table[count][place] != 0:
            clear_above(table, count, place)
            count = count + 1
    return table, count


def clear_below(table, first, place):
    """Row operations on the ROWS from first on, until at most this one is not 0 at the place."""
    while True:
        sizes = [(abs(table[k][place]), k) for k in range(first, len(table)) if table[k][place] != 0]
        if not sizes:
            return
        # Euclid's steps: the least number is taken off all others.
        _, least = min(sizes)
        table[first], table[least] = table[least], table[first]
        if len(sizes) == 1:
            return
        for k in range(first + 1, len(table)):
            take_off(table, k, first, place)


def clear_above(table, lead_row, place):
    """The lead made greater than 0, and the numbers above it made from 0 to below it."""
    if table[lead_row][place] < 0:
        table[lead_row] = [-part for part in table[lead_row]]
    for k in range(lead_row):
        take_off(table, k, lead_row, place)


def take_off(table, changed, taken_row, place):
    """One ROW off another so often as its number at the place goes into that one's."""
    times = table[changed][place] // table[taken_row][place]
    if times != 0:
        table[changed] = [part - times * less for part, less in zip(table[changed], table[taken_row])]


def same_sums(rows, other):
    """Whether they have the same whole sums."""
    return stepped(rows) == stepped(other)


def rank_of(rows):
    """How many ROWS the stepped TABLE has."""
    if len(rows) == 0:
        return 0
    size = len(rows[0])
    if size <= 3:
        return rank_and_row(rows, size)[0]
    basis = []
    for row in rows:
        basis = basis_with(basis, row)
    return len(basis)


def basis_with(basis, row):
    """A list of pairs (lead, row), leads unlike, and such a pair for one ROW more, if it does not come of those."""
    left = row
    for lead, step in basis:
        if left[lead] != 0:
            much, less = step[lead], left[lead]
            left = [much * part - less * other for part, other in zip(left, step)]
    place = lead_of(left)
    return basis if place == len(left) else basis + [(place, left)]


def det_of(table):
    """The determinant, by steps that stay whole (Bareiss)."""
    rows = [list(row) for row in table]
    sign, before = 1, 1
    for place in range(len(rows)):
        usable = [k for k in range(place, len(rows)) if rows[k][place] != 0]
        if not usable:
            return 0
        if usable[0] != place:
            rows[place], rows[usable[0]] = rows[usable[0]], rows[place]
            sign = -sign
        lead = rows[place][place]
        for k in range(place + 1, len(rows)):
            times = rows[k][place]
            rows[k] = [(lead * part - times * top) // before for part, top in zip(rows[k], rows[place])]
        before = lead
    return sign * before


def null_rows(rows, size):
    """The SPACE of the ROWS of this size that show 0 of each of rows."""
    if size > 3:
        return null_by_steps(rows, size)
    rank, told = flat_of(rows, size)
    if rank == 0:
        return unit_rows(size)
    if rank == size:
        return ()
    if size == 2:
        return (primitive((told[1], -told[0])),)
    return (told,) if rank == 2 else plane_rows(told)


def null_by_steps(rows, size):
    """The like for whatever size, by whole row operations on the columns."""
    count = len(rows)
    joined = [column + unit for column, unit in zip(turned(rows, size), unit_rows(size))]
    table, rank = step_rows(joined, count)
    return stepped([row[count:] for row in table[rank:]])


def flat_of(rows, size):
    """Of ROWS of a size to 3 the rank; and a primitive ROW of which they are multiples, if the rank is 1, and less
    than the size; one that shows 0 of them, if it is 2, and less."""
    rank, told = rank_and_row(rows, size)
    return (rank, ()) if rank in (0, size) else (rank, primitive(told))


def rank_and_row(rows, size):
    """The like with some ROW, perhaps not primitive."""
    rank, told = 0, ()
    for row in rows:
        if rank == 0:
            if any(row):
                rank, told = 1, row
        elif rank == 1:
            across = cross_row(told, row) if size == 3 else ()
            if size == 2 and told[0] * row[1] != told[1] * row[0] or any(across):
                rank, told = 2, across
        elif size == 3 and dot(told, row) != 0:
            return 3, ()
    return rank, told


def cross_row(one, other):
    """The ROW of three numbers that shows 0 of both; 0s if one is a multiple of the other."""
    first, second, third = one
    some, more, last = other
    return second * last - third * more, third * some - first * last, first * more - second * some


def primitive(row):
    """The ROW, not of 0s, divided by what divides all its numbers, its lead made greater than 0."""
    common = 0
    for part in row:
        common = gcd(common, part)
    if row[lead_of(row)] < 0:
        common = -common
    return tuple([part // common for part in row])


def plane_rows(normal):
    """The SPACE of the ROWS that show 0 of this ROW of three numbers, primitive."""
    first, second, third = normal
    common = gcd(second, third)
    if common == 0:
        return ((0, 1, 0), (0, 0, 1))
    second, third = second // common, third // common
    if third == 0:
        return ((common, -first * second, 0), (0, 0, 1))
    # first * common + second * common * part + third * common * last is to be 0, part from 0 to below the lead.
    if third < 0:
        first, second, third = -first, -second, -third
    part = -first * inverse(second, third) % third
    return ((common, part, -(first + second * part) // third), (0, third, -second))


def inverse(number, modulus):
    """A number that times this one leaves 1, divided by modulus, which has no divisor in common with it."""
    before, after = modulus, number % modulus
    result, more = 0, 1
    while after != 0:
        times = before // after
        before, after = after, before - times * after
        result, more = more, result - times * more
    return result


def filled(rows):
    """The SPACE of all ROWS of whole numbers that are sums of multiples of rows by FRACTIONS."""
    if len(rows) == 0:
        return ()
    size = len(rows[0])
    if size > 3:
        return null_by_steps(null_by_steps(rows, size), size)
    rank, told = flat_of(rows, size)
    if rank == 0:
        return ()
    if rank == size:
        return unit_rows(size)
    return (told,) if rank == 1 else plane_rows(told)


def is_full(rows):
    """Whether each ROW of whole numbers that comes of rows by FRACTIONS is a whole sum of them."""
    return stepped(rows) == filled(rows)


def index_of(rows):
    """How many kinds of POINTS of filled(rows) there are: the leads of both have the same places."""
    whole, part = 1, 1
    for row in stepped(rows):
        part = part * row[lead_of(row)]
    for row in filled(rows):
        whole = whole * row[lead_of(row)]
    return part // whole


def whole_shares(rows, row):
    """So often each of rows is taken, added up, it is row; None if there is no such tuple."""
    turns = turner(rows)
    times = step_shares(stepped(rows), row)
    if times is None:
        return None
    return combined(times, turns, len(rows))


def step_shares(table, row):
    """So often each ROW of a stepped TABLE is taken to come to row; None if it is no whole sum."""
    left = list(row)
    times = []
    for step in table:
        place = lead_of(step)
        much, over = divmod(left[place], step[place])
        if over != 0:
            return None
        left = [part - much * less for part, less in zip(left, step)]
        times.append(much)
    if lead_of(left) < len(left):
        return None
    return tuple(times)


def is_shares(rows, row, thing):
    """Whether thing is a tuple of numbers, one for each of rows, so often they come to row."""
    return is_row(thing, len(rows)) and combined(thing, rows, len(row)) == frozen(row)


def whole_bar(rows, row):
    """FRACTIONS that show each of rows a whole number, but not row; None if row is a whole sum."""
    table = stepped(rows)
    left = list(row)
    for count, step in enumerate(table):
        place = lead_of(step)
        much, over = divmod(left[place], step[place])
        if over != 0:
            # Those that show 0 of all steps ahead, 1 of this one: of row the FRACTION it is taken.
            return bar_with(table[:count], place, len(row), (1, step[place]))
        left = [part - much * less for part, less in zip(left, step)]
    place = lead_of(left)
    if place == len(left):
        return None
    # Those that show 0 of all steps: of what is left, a half.
    return bar_with(table, place, len(row), (1, 2 * abs(left[place])))


def bar_with(table, place, size, much):
    """FRACTIONS that show 0 of each step: much at the place, else 0 outside of the leads."""
    bar = [(0, 1)] * size
    bar[place] = much
    for step in reversed(table):
        top, bottom = shown_fraction(step, bar)
        lead = lead_of(step)
        bar[lead] = fraction(-top, bottom * step[lead])
    return tuple(bar)


def shown_fraction(row, bar):
    """What FRACTIONS come to, each taken so often as row tells: not reduced."""
    top, bottom = 0, 1
    for number, (over, under) in zip(row, bar):
        top, bottom = top * under + number * over * bottom, bottom * under
    return top, bottom


def is_bar(rows, row, thing):
    """Whether thing is a tuple of FRACTIONS that shows each of rows a whole number, but not row."""
    if not isinstance(thing, tuple) or len(thing) != len(row):
        return False
    if not all([is_fraction(part) for part in thing]):
        return False
    return all([is_whole(each, thing) for each in rows]) and not is_whole(row, thing)


def is_whole(row, bar):
    """Whether FRACTIONS, each taken so often as row tells, come to a whole number."""
    top, bottom = shown_fraction(row, bar)
    return top % bottom == 0


def turner(rows):
    """A TABLE, det 1 or -1, that takes rows to stepped(rows), then to ROWS of 0s."""
    if len(rows) == 0:
        return ()
    size = len(rows[0])
    joined = [list(row) + list(unit) for row, unit in zip(rows, unit_rows(len(rows)))]
    table, _ = step_rows(joined, size)
    return tuple([tuple(row[size:]) for row in table])


def is_turner(rows, thing):
    """Whether thing is such a TABLE."""
    count = len(rows)
    if not is_unit_table(thing, count):
        return False
    if count == 0:
        return True
    size = len(rows[0])
    steps = stepped(rows)
    zeros = ((0,) * size,) * (count - len(steps))
    return tuple([combined(times, rows, size) for times in thing]) == steps + zeros


def is_unit_table(thing, size):
    """Whether thing is a TABLE of this size, as many ROWS, its determinant 1 or -1."""
    return is_rows(thing, size) and len(thing) == size and abs(det_of(thing)) == 1


def completed(rows, size):
    """A TABLE of this size, det 1 or -1, the first ROWS of which are rows."""
    if rank_of(rows) != len(rows) or not is_full(rows):
        raise Unfit()
    # Full rows are the first ROWS of what turns back the operations that step their columns.
    return turner(turned(turner(turned(rows, size)), size))


def is_completed(rows, size, thing):
    """Whether thing is such a TABLE."""
    return is_unit_table(thing, size) and thing[:len(rows)] == frozen(rows)
