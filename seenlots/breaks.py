"""Breaks: boxes with more points than SHARES allow."""

from seenlots.errors import NoPaper
from seenlots.holds import excess, excesses, least_space
from seenlots.kinds import told_kinds, told_space
from seenlots.lots import box_of, keeps
from seenlots.powers import compared, powers_of, whole_part
from seenlots.rows import filled
from seenlots.spaces import image_rows, is_space, taken
from seenlots.values import dot, fraction_times, fraction_total, is_number


def box_lot(rows, sides):
    """The box of rows by sides."""
    return box_of(len(rows[0]), rows, sides)


def room_steps(view, rows):
    """For each ROW of the image of what rows make: how often what each of rows shows takes it, without signs."""
    shown = image_rows(view, rows)
    if len(view) == 0:
        return []
    base = filled(shown)
    times = [taken(base, seen) for seen in shown]
    return [[abs(part[place]) for part in times] for place in range(len(base))]


def rooms(sight, rows, sides):
    """The room of each VIEW for rows and sides."""
    _, views = sight
    more = [side - 1 for side in sides]
    return tuple([room_of(room_steps(view, rows), more) for view in views])


def room_of(steps, more):
    """The room, told the steps of a VIEW and how much each side is more than 1."""
    room = 1
    for step in steps:
        room = room * (1 + dot(step, more))
    return room


def lot_breaks(sight, shares, lot):
    """Whether a LOT has more POINTS than the product of the numbers of its images to the powers of the SHARES."""
    return not keeps(sight, shares, lot)


def box_powers(sight, shares, rows, sides):
    """The POWERS of the sides, and those of the rooms to the SHARES."""
    return tuple([(side, (1, 1)) for side in sides]), powers_of(rooms(sight, rows, sides), shares)


def surely_breaks(sight, shares, rows, sides):
    """Whether the sides multiplied are more than the rooms to the powers of the SHARES."""
    first, second = box_powers(sight, shares, rows, sides)
    return compared(first, second) > 0


def is_break(sight, shares, thing):
    """Whether thing is a BREAK of the SHARES."""
    if not isinstance(thing, tuple) or len(thing) != 2:
        return False
    space, side = thing
    if not is_number(side) or side < 1 or not is_space(space, sight[0]):
        return False
    return surely_breaks(sight, shares, space, (side,) * len(space))


def image_steps(sight, shares, space):
    """For each ROW of each image of a SPACE the pair of how often its ROWS together take it and the share."""
    _, views = sight
    found = []
    for view, share in zip(views, shares):
        found.extend([(sum(step), tuple(share)) for step in room_steps(view, space)])
    return found


def least_side(sight, shares, space, times):
    """The least side by which the box of a SPACE has more than so many times the product of the rooms to the SHARES."""
    top, bottom = excess(sight, shares, space)
    if top <= 0:
        raise NoPaper()
    steps = image_steps(sight, shares, space)
    # A room is at most side times step: so this much is enough, and what is enough is not far below it.
    most = [(number, fraction_times(share, (bottom, top))) for number, share in steps]
    enough = whole_part(most + [(times, (bottom, top))]) + 1
    less = 1
    while enough - less > 1 and is_enough(steps, len(space), enough - less, times):
        enough = enough - less
        less = less * 2
    short = max(1, enough - less)
    while enough - short > 1:
        middle = (enough + short) // 2
        if is_enough(steps, len(space), middle, times):
            enough = middle
        else:
            short = middle
    return enough


def is_enough(steps, dim, side, times):
    """Whether side to the power dim is above times times the product of the rooms, told their steps."""
    least = [(1 + (side - 1) * number, share) for number, share in steps]
    return compared([(side, (dim, 1))], least + [(times, (1, 1))]) > 0


def break_of(sight, shares):
    """A BREAK of the SHARES; None if they hold."""
    flats, found = told_kinds(sight)
    numbers, bottom = excesses(found, shares)
    best = None
    for (kind, flat, _), number in zip(found, numbers):
        if number > 0:
            space = told_space(sight[0], flats, kind, flat)
            double = enough_doublings(image_steps(sight, shares, space), number, bottom)
            if best is None or double < best[0]:
                best = (double, space)
    return None if best is None else (best[1], 1 << best[0])


def enough_doublings(steps, top, bottom):
    """A number such that 2 to this power is a side of a BREAK, the excess of the SPACE being top / bottom."""
    # The side to the power of the excess has to be above all steps to the powers of the shares.
    bits = [((number - 1).bit_length() * share[0], share[1]) for number, share in steps]
    over, under = fraction_total(bits)
    return over * bottom // (under * top) + 1


def first_break(sight, shares):
    """The BREAK with the least SPACE of the greatest excess, and its least side; None if the SHARES hold."""
    space = least_space(sight, shares)
    return None if space == () else (space, least_side(sight, shares, space, 1))


def broken_shares(sight, space, side, some):
    """The set of the places of those SHARES of which (space, side) is a BREAK."""
    least = rooms(sight, space, (side,) * len(space))
    held = [(side, (len(space), 1))]
    return tuple([place for place, shares in enumerate(some) if compared(held, powers_of(least, shares)) > 0])
