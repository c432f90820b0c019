"""Products of powers: POWERS, compared exactly by whole numbers alone."""

from math import gcd, isqrt, lcm

from seenlots.errors import NoPaper, Unfit
from seenlots.values import fraction, fraction_times, frozen, is_fraction, is_number

# Products of so many binary digits are written out; of greater ones the logarithms are bounded, and only those that
# are close are then written out, up to so many.
MOST_BITS = 4096
CLOSE_BITS = 200000

FIRST_BITS = 64


def is_powers(thing):
    """Whether thing is POWERS."""
    return isinstance(thing, tuple) and all([is_power(pair) for pair in thing])


def is_power(thing):
    """Whether thing is one pair of POWERS: a number from 1 and a FRACTION."""
    if not isinstance(thing, tuple) or len(thing) != 2:
        return False
    number, much = thing
    return is_number(number) and number >= 1 and is_fraction(much)


def powers_of(numbers, shares):
    """The pairs of both, place by place."""
    if len(numbers) != len(shares):
        raise Unfit()
    return tuple([(number, frozen(share)) for number, share in zip(numbers, shares)])


def powers_times(one, other):
    """The pairs of one, then those of other: both products multiplied."""
    return frozen(one) + frozen(other)


def powers_over(one, other):
    """The pairs of one, then those of other turned over: one product divided by the other."""
    return frozen(one) + powers_to(other, (-1, 1))


def powers_to(powers, much):
    """Each FRACTION times much: the product to the power much."""
    return tuple([(number, fraction_times(share, much)) for number, share in powers])


def compared(one, other):
    """-1, 0 or 1: the product of one is less than, equal to, greater than that of other."""
    pairs, _ = whole_exponents(list(one) + [(number, (-much[0], much[1])) for number, much in other])
    return sign_of(pairs)


def sign_of(pairs):
    """-1, 0 or 1: the product of pairs with whole exponents is less than, equal to, greater than 1."""
    total = bits_of(pairs)
    low, high, bits = 0, 0, FIRST_BITS
    if total > MOST_BITS:
        low, high = log_bounds(pairs, bits)
    if low <= 0 <= high and total <= CLOSE_BITS:
        top, bottom = written_out(pairs)
        return (top > bottom) - (top < bottom)
    if low <= 0 <= high and is_one(pairs):
        return 0
    while low <= 0 <= high:
        bits = bits * 2
        low, high = log_bounds(pairs, bits)
    return 1 if low > 0 else -1


def bits_of(pairs):
    """At least as many binary digits as the powers with whole exponents have together."""
    return sum([number.bit_length() * abs(times) for number, times in pairs])


def written_out(pairs):
    """All powers with exponents above 0, multiplied; and all those with exponents below 0, turned over."""
    top, bottom = 1, 1
    for number, times in pairs:
        if times > 0:
            top = top * to_power(number, times)
        else:
            bottom = bottom * to_power(number, -times)
    return top, bottom


def ranked(several):
    """The places of several POWERS: lesser products first, of equal ones the lesser place first."""
    order = []
    for place in range(len(several)):
        ahead = [k for k in order if compared(several[k], several[place]) <= 0]
        order.insert(len(ahead), place)
    return tuple(order)


def worth_of(powers):
    """The FRACTION that the product is; None if it is none."""
    pairs, many = whole_exponents(powers)
    top, bottom = 1, 1
    for base, times in base_exponents(pairs):
        # Bases have no divisor in common: each power must be a FRACTION by itself.
        exponent, root_of = fraction(times, many)
        root = root_part(base, root_of)
        if to_power(root, root_of) != base:
            return None
        if exponent > 0:
            top = top * to_power(root, exponent)
        else:
            bottom = bottom * to_power(root, -exponent)
    return (top, bottom)


def whole_part(powers):
    """The greatest number, from 0, that is at most the product."""
    pairs, many = whole_exponents(powers)
    total = bits_of(pairs)
    if total > MOST_BITS:
        _, high = log_bounds(pairs, FIRST_BITS)
        # Half the logarithm of 2 is more than a third: no more binary digits has the product.
        digits = max(0, high) * 3 // (many << FIRST_BITS) + 2
        if many > 24 or total > 4 * many * digits:
            return part_by_logs(powers, pairs, many, FIRST_BITS + digits)
    top, bottom = written_out(pairs)
    return root_part(top // bottom, many)


def part_by_logs(powers, pairs, many, bits):
    """The whole part of a product, told its pairs with whole exponents, by bounds with so many binary digits."""
    low, high = log_bounds(pairs, bits)
    surely, _ = exp_bounds(low // many, bits)
    _, perhaps = exp_bounds(-(-high // many), bits)
    while surely < perhaps:
        middle = (surely + perhaps + 1) // 2
        if compared([(middle, (1, 1))], powers) <= 0:
            surely = middle
        else:
            perhaps = middle - 1
    return surely


def exp_bounds(half, bits):
    """Whole parts of bounds of what has half as its half logarithm, times 2 to the power bits; 0 for less than 1."""
    if half < 0:
        return 0, 0
    two_low, two_high = artanh_bounds(1, 3, bits)
    size = half // two_high
    left = 2 * (half - size * two_high)
    part, low, place = 1 << bits, 0, 0
    while part > 0:
        low, place = low + part, place + 1
        part = (part * left >> bits) // place
    # Each part is less than 4 too small, the rest less than 8; 9 for each by which what is left may be too small.
    high = low + 4 * place + 8 + 9 * size * (two_high - two_low)
    return (low << size) >> bits, (high << size) >> bits


def part_at(powers, many):
    """The greatest FRACTION, at most the product, many times which is a whole number."""
    return fraction(whole_part(powers_times(powers, ((many, (1, 1)),))), many)


def root_part(number, many):
    """The greatest number whose power many is at most number."""
    if number < 2 or many == 1:
        return number
    digits = number.bit_length() // many
    if digits == 0:
        return 1
    if many & 1 == 0:
        return root_part(isqrt(number), many // 2)
    guess = 2 << digits
    if digits > 256:
        # The root of the first half of its digits, and one more, is a start close above.
        behind = digits // 2
        guess = (root_part(number >> (many * behind), many) + 1) << behind
    # Newton's steps go down to the root from every start above it.
    while True:
        better = ((many - 1) * guess + number // to_power(guess, many - 1)) // many
        if better >= guess:
            return guess
        guess = better


def first_above(powers, other):
    """The least number k, from 0, such that the product to the power k is above that of other."""
    pairs, many = whole_exponents(powers)
    others, count = whole_exponents(other)
    if sign_of(others) < 0:
        return 0
    if sign_of(pairs) <= 0:
        raise NoPaper()
    bits = FIRST_BITS
    low, high = log_bounds(pairs, bits)
    while low <= 0:
        bits = bits * 2
        low, high = log_bounds(pairs, bits)
    least, most = log_bounds(others, bits)
    below = max(0, least) * many // (high * count)
    above = most * many // (low * count) + 1
    while above - below > 1:
        middle = (above + below) // 2
        if compared(powers_to(powers, (middle, 1)), other) <= 0:
            below = middle
        else:
            above = middle
    return above


def to_power(number, times):
    """The number to the power times, from 0."""
    result = number ** (int(times) % 64)
    if times > 63:
        result = result * to_power(number ** 64, times // 64)
    return result


def whole_exponents(powers):
    """Pairs with whole exponents, numbers above 1, of the product to the power many; and many."""
    many = 1
    for _, much in powers:
        if many % much[1] != 0:
            many = lcm(many, much[1])
    table = {}
    for number, much in powers:
        table[number] = table.get(number, 0) + much[0] * (many // much[1])
    return [(number, times) for number, times in table.items() if number > 1 and times != 0], many


def coprime_bases(numbers):
    """Numbers above 1, no two with a divisor in common, of whose powers all these numbers are products."""
    bases = []
    waiting = list(numbers)
    while waiting:
        number = waiting.pop()
        if number == 1 or number in bases:
            continue
        sharing = [base for base in bases if gcd(base, number) > 1]
        if not sharing:
            bases.append(number)
            continue
        base = sharing[0]
        common = gcd(base, number)
        bases.remove(base)
        waiting.extend([base // common, common, number // common])
    return bases


def base_exponents(pairs):
    """The same product of pairs with whole exponents as pairs of coprime bases, without exponents 0."""
    found = []
    for base in coprime_bases([number for number, _ in pairs]):
        total = sum([times * times_in(number, base) for number, times in pairs])
        if total != 0:
            found.append((base, total))
    return found


def times_in(number, base):
    """How often base, above 1, divides number."""
    count = 0
    while number % base == 0:
        number = number // base
        count = count + 1
    return count


def is_one(pairs):
    """Whether the product of pairs with whole exponents is 1: only if each coprime base has exponent 0."""
    return base_exponents(pairs) == []


def log_bounds(pairs, bits):
    """A number not above and one not below half the logarithm of the product, times 2 to the power bits."""
    two = artanh_bounds(1, 3, bits)
    low, high = 0, 0
    for number, times in pairs:
        below, above = number_bounds(number, bits, two)
        if times > 0:
            low, high = low + times * below, high + times * above
        else:
            low, high = low + times * above, high + times * below
    return low, high


def number_bounds(number, bits, two):
    """The like for one number, told the like for 2."""
    size = number.bit_length() - 1
    behind = max(0, size - bits - 16)
    # Half the logarithm of a number m times 2 to the power e is e times that of 2 and artanh of (m - 1) / (m + 1);
    # the digits behind the first ones make less than 1 of it.
    first, unit = number >> behind, 1 << (size - behind)
    below, above = artanh_bounds(first - unit, first + unit, bits)
    return size * two[0] + below, size * two[1] + above + min(1, behind)


def artanh_bounds(top, bottom, bits):
    """Bounds of the sum of z**k / k over odd k, times 2 to the power bits, z = top/bottom from 0 to 1/3."""
    if top == 0:
        return 0, 0
    part = (top << bits) // bottom
    over, under = top * top, bottom * bottom
    if under.bit_length() > 60:
        over, under = part * part >> bits, 0
    low, place = 0, 1
    while part > 0:
        low = low + part // place
        # Small numbers are quicker than a square of as many digits as the parts have.
        part = part * over // under if under else part * over >> bits
        place = place + 2
    # Each power is less than 2 too small, each part of the sum so less than 1 and 2 / place; the rest is less than 3.
    return low, low + place + 8
