"""Products of powers: POWERS, compared exactly by whole numbers alone."""

from math import gcd, lcm

from seenlots.errors import NoPaper, Unfit
from seenlots.values import fraction, fraction_times, frozen, is_fraction, is_number

FIRST_BITS = 128


def is_powers(thing):
    """Whether thing is POWERS."""
    return isinstance(thing, tuple) and all([is_power(pair) for pair in thing])


def is_power(thing):
    """Whether thing is one pair of POWERS: a number from 1 and a FRACTION."""
    if not isinstance(thing, tuple) or len(thing) != 2:
        return False
    number, much = thing
    return is_number(number) and number >= 1 and is_fraction(much)


def powers_of(numbers, shares):
    """The pairs of both, place by place."""
    if len(numbers) != len(shares):
        raise Unfit()
    return tuple([(number, frozen(share)) for number, share in zip(numbers, shares)])


def powers_times(one, other):
    """The pairs of one, then those of other: both products multiplied."""
    return frozen(one) + frozen(other)


def powers_over(one, other):
    """The pairs of one, then those of other turned over: one product divided by the other."""
    return frozen(one) + powers_to(other, (-1, 1))


def powers_to(powers, much):
    """Each FRACTION times much: the product to the power much."""
    return tuple([(number, fraction_times(share, much)) for number, share in powers])


def compared(one, other):
    """-1, 0 or 1: the product of one is less than, equal to, greater than that of other."""
    pairs, _ = whole_exponents(powers_over(one, other))
    low, high = log_bounds(pairs, FIRST_BITS)
    if low <= 0 <= high and is_one(pairs):
        return 0
    bits = FIRST_BITS
    while low <= 0 <= high:
        bits = bits * 2
        low, high = log_bounds(pairs, bits)
    return 1 if low > 0 else -1


def ranked(several):
    """The places of several POWERS: lesser products first, of equal ones the lesser place first."""
    order = []
    for place in range(len(several)):
        ahead = [k for k in order if compared(several[k], several[place]) <= 0]
        order.insert(len(ahead), place)
    return tuple(order)


def worth_of(powers):
    """The FRACTION that the product is; None if it is none."""
    pairs, many = whole_exponents(powers)
    top, bottom = 1, 1
    for base, times in base_exponents(pairs):
        # Bases have no divisor in common: each power must be a FRACTION by itself.
        exponent, root_of = fraction(times, many)
        root = root_part(base, root_of)
        if to_power(root, root_of) != base:
            return None
        if exponent > 0:
            top = top * to_power(root, exponent)
        else:
            bottom = bottom * to_power(root, -exponent)
    return (top, bottom)


def whole_part(powers):
    """The greatest number, from 0, that is at most the product."""
    pairs, many = whole_exponents(powers)
    bits = FIRST_BITS
    while True:
        low, high = log_bounds(pairs, bits)
        surely = last_within(many, low, bits, 1)
        perhaps = last_within(many, high, bits, 0)
        if perhaps <= surely + 1:
            break
        bits = bits * 2
    if perhaps > surely and compared(((perhaps, (1, 1)),), powers) <= 0:
        return perhaps
    return surely


def last_within(many, limit, bits, side):
    """A number within the limit by its bound of this side (0 below, 1 above), the next one being beyond it."""
    two = artanh_bounds(1, 3, bits)
    above = 1
    while many * number_bounds(above, bits, two)[side] <= limit:
        above = above * 2
    below = above // 2
    while above - below > 1:
        middle = (above + below) // 2
        if many * number_bounds(middle, bits, two)[side] <= limit:
            below = middle
        else:
            above = middle
    return below


def part_at(powers, many):
    """The greatest FRACTION, at most the product, many times which is a whole number."""
    return fraction(whole_part(powers_times(powers, ((many, (1, 1)),))), many)


def root_part(number, many):
    """The greatest number whose power many is at most number."""
    if number < 2:
        return number
    if many >= number.bit_length():
        return 1
    # Newton's steps go down to the root from every start above it.
    guess = 1 << (number.bit_length() // many + 1)
    while True:
        better = ((many - 1) * guess + number // to_power(guess, many - 1)) // many
        if better >= guess:
            return guess
        guess = better


def first_above(powers, other):
    """The least number k, from 0, such that the product to the power k is above that of other."""
    if compared((), other) > 0:
        return 0
    if compared(powers, ()) <= 0:
        raise NoPaper()
    above = 1
    while compared(powers_to(powers, (above, 1)), other) <= 0:
        above = above * 2
    below = above // 2
    while above - below > 1:
        middle = (above + below) // 2
        if compared(powers_to(powers, (middle, 1)), other) <= 0:
            below = middle
        else:
            above = middle
    return above


def to_power(number, times):
    """The number to the power times, from 0."""
    result = 1
    while times > 0:
        if times & 1:
            result = result * number
        times = times >> 1
        if times > 0:
            number = number * number
    return result


def whole_exponents(powers):
    """Pairs with whole exponents, numbers above 1, of the product to the power many; and many."""
    many = 1
    for _, much in powers:
        many = lcm(many, much[1])
    table = {}
    for number, much in powers:
        table[number] = table.get(number, 0) + much[0] * (many // much[1])
    pairs = [(number, times) for number, times in table.items() if number > 1 and times != 0]
    return pairs, many


def coprime_bases(numbers):
    """Numbers above 1, no two with a divisor in common, of whose powers all these numbers are products."""
    bases = []
    waiting = list(numbers)
    while waiting:
        number = waiting.pop()
        if number == 1 or number in bases:
            continue
        sharing = [base for base in bases if gcd(base, number) > 1]
        if not sharing:
            bases.append(number)
            continue
        base = sharing[0]
        common = gcd(base, number)
        bases.remove(base)
        waiting.extend([base // common, common, number // common])
    return bases


def base_exponents(pairs):
    """The same product of pairs with whole exponents as pairs of coprime bases, without exponents 0."""
    found = []
    for base in coprime_bases([number for number, _ in pairs]):
        total = sum([times * times_in(number, base) for number, times in pairs])
        if total != 0:
            found.append((base, total))
    return found


def times_in(number, base):
    """How often base, above 1, divides number."""
    count = 0
    while number % base == 0:
        number = number // base
        count = count + 1
    return count


def is_one(pairs):
    """Whether the product of pairs with whole exponents is 1: only if each coprime base has exponent 0."""
    return base_exponents(pairs) == []


def log_bounds(pairs, bits):
    """A number not above and one not below half the logarithm of the product, times 2 to the power bits."""
    two = artanh_bounds(1, 3, bits)
    low, high = 0, 0
    for number, times in pairs:
        below, above = number_bounds(number, bits, two)
        if times > 0:
            low, high = low + times * below, high + times * above
        else:
            low, high = low + times * above, high + times * below
    return low, high


def number_bounds(number, bits, two):
    """The like for one number, told the like for 2."""
    if number == 1:
        return 0, 0
    # Half the logarithm of a number m times 2 to the power e is e times that of 2 and artanh of (m - 1) / (m + 1).
    size = number.bit_length() - 1
    unit = 1 << size
    below, above = artanh_bounds(number - unit, number + unit, bits)
    return size * two[0] + below, size * two[1] + above


def artanh_bounds(top, bottom, bits):
    """Bounds of the sum of z**k / k over odd k, times 2 to the power bits, z = top/bottom from 0 to 1/3."""
    below = (top << bits) // bottom
    above = below + 1
    top, bottom = top * top, bottom * bottom
    low, high, place = 0, 0, 1
    while below > 0:
        low = low + below // place
        high = high + above // place + 1
        below = below * top // bottom
        above = above * top // bottom + 1
        place = place + 2
    # All further parts come to less than twice the first of them.
    return low, high + 2 * above
