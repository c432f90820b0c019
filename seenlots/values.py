"""Numbers, FRACTIONS, ROWS and tuples: what all other files share."""

from math import gcd


def is_number(thing):
    """Whether thing is a number; True and False are none."""
    return isinstance(thing, int) and not isinstance(thing, bool)


def is_row(thing, size):
    """Whether thing is a tuple of so many numbers."""
    if not isinstance(thing, tuple) or len(thing) != size:
        return False
    return all([is_number(part) for part in thing])


def is_fraction(thing):
    """Whether thing is a FRACTION, in lowest terms."""
    return is_row(thing, 2) and thing[1] >= 1 and gcd(thing[0], thing[1]) == 1


def frozen(value):
    """The same value with tuples for lists, at any depth."""
    if isinstance(value, (list, tuple)):
        return tuple([frozen(part) for part in value])
    return value


def fraction(top, bottom):
    """The FRACTION of top divided by bottom, a number from 1."""
    common = gcd(top, bottom)
    return (top // common, bottom // common)


def fraction_times(one, other):
    """Both FRACTIONS multiplied."""
    return fraction(one[0] * other[0], one[1] * other[1])


def dot(row, point):
    """What a ROW of numbers shows of a POINT of numbers."""
    return sum([part * number for part, number in zip(row, point)])


def combined(times, rows, size):
    """The ROW of this size that comes of rows, each taken so often as told, added up."""
    total = [0] * size
    for much, row in zip(times, rows):
        total = [before + much * part for before, part in zip(total, row)]
    return tuple(total)


def unit_rows(size):
    """The TABLE of so many ROWS, each with 1 at its own place and 0 at all others."""
    return tuple([tuple([int(row == place) for place in range(size)]) for row in range(size)])


def turned(rows, size):
    """The columns of rows of this size, as ROWS."""
    return tuple([tuple([row[place] for row in rows]) for place in range(size)])
