"""Claims, and one judge for all papers: for and against."""

from seenlots.breaks import break_of, is_break
from seenlots.errors import NoWord, Unfit
from seenlots.flags import best_flag, best_worth, fits, flag_worth, is_flag
from seenlots.holds import are_holding, holds
from seenlots.kinds import told_kinds
from seenlots.reasons import is_reason, reason
from seenlots.region import corners, least_sum
from seenlots.rows import basis_with
from seenlots.spaces import zeros_of
from seenlots.values import are_fractions, are_shares, dot, fraction, fraction_sum, frozen, inverted, is_at_most
from seenlots.values import is_fraction, is_row, on_one_bottom
from seenlots.views import is_sight

# How many things a CLAIM has that begins with the word.
LENGTHS = {"hold": 3, "worth": 4, "apart": 2, "within": 3, "reach": 4}


def is_claim(thing):
    """Whether thing is a CLAIM."""
    if not isinstance(thing, tuple) or len(thing) < 2 or not isinstance(thing[0], str):
        return False
    word, sight = thing[:2]
    if LENGTHS.get(word, 0) != len(thing) or not is_sight(sight):
        return False
    many = len(sight[1])
    if word == "within":
        return is_sight(thing[2]) and len(thing[2][1]) == many
    if word == "hold":
        return are_shares(thing[2], many)
    return word == "apart" or are_fractions(thing[2], many) and is_fraction(thing[3])


def held_claim(claim):
    """The CLAIM, made of tuples; raises NoWord, then Unfit."""
    told = frozen(claim)
    word = told[0]
    if word not in LENGTHS:
        raise NoWord(word)
    if len(told) != LENGTHS[word]:
        raise Unfit()
    if word == "within" and len(told[1][1]) != len(told[2][1]):
        raise Unfit()
    return told


def all_rows(sight):
    """The ROWS of all VIEWS, one VIEW behind the other."""
    return [row for view in sight[1] for row in view]


def unseen(sight):
    """The SPACE of the POINTS of which all VIEWS show 0s."""
    return zeros_of(all_rows(sight), sight[0])


def least_worth(sight, heights):
    """The least sum of SHARES that hold times HEIGHTS; None if no SHARES hold."""
    return best_worth(sight, heights) if unseen(sight) == () else None


def is_so(claim):
    """Whether a CLAIM is so."""
    told = held_claim(claim)
    word, sight = told[:2]
    if word == "hold":
        return holds(sight, told[2])
    if word == "apart":
        return unseen(sight) == ()
    if word == "within":
        return not_held(sight, told[2]) is None
    least = least_worth(sight, told[2])
    if word == "worth":
        return least is not None and is_at_most(least, told[3])
    return least is None or is_at_most(told[3], least)


def not_held(sight, other):
    """The first corner of a SIGHT that does not hold in the other one; None if there is none."""
    _, found = told_kinds(other)
    for corner in corners(sight):
        if not are_holding(found, corner):
            return corner
    return None


def paper(claim):
    """A PAPER of a CLAIM."""
    told = held_claim(claim)
    word, sight = told[:2]
    so = is_so(told)
    if word == "hold":
        return reason(sight, told[2]) if so else break_of(sight, told[2])
    if word == "within":
        return within_paper(sight, told[2])
    if word == "apart":
        return back_table(sight) if so else unseen(sight)[0]
    if so == (word == "worth"):
        _, shares = least_sum(sight, told[2])
        return shares, reason(sight, shares)
    points = unseen(sight)
    return best_flag(sight, told[2]) if points == () else points[0]


def within_paper(sight, other):
    """A REASON in other for each corner; or a corner that does not hold there, its REASON and its BREAK."""
    corner = not_held(sight, other)
    if corner is None:
        return tuple([reason(other, shares) for shares in corners(sight)])
    return corner, reason(sight, corner), break_of(other, corner)


def back_table(sight):
    """For each place FRACTIONS, one for each of all ROWS, that make 1 at this place, if there are such."""
    rows = all_rows(sight)
    basis, chosen = [], []
    for number, row in enumerate(rows):
        more = basis_with(basis, row)
        if len(more) > len(basis):
            basis = more
            chosen.append(number)
    size, table = inverted([rows[number] for number in chosen])
    sign = 1 if size > 0 else -1
    found = []
    for times in table:
        several = [(0, 1)] * len(rows)
        for number, much in zip(chosen, times):
            several[number] = fraction(sign * much, sign * size)
        found.append(tuple(several))
    return tuple(found)


def is_back_table(sight, thing):
    """Whether thing is such a tuple of tuples of FRACTIONS."""
    size, _ = sight
    rows = all_rows(sight)
    if not isinstance(thing, tuple) or len(thing) != size:
        return False
    if not all([isinstance(several, tuple) and len(several) == len(rows) for several in thing]):
        return False
    if not all([is_fraction(part) for several in thing for part in several]):
        return False
    columns = [[row[place] for row in rows] for place in range(size)]
    return all([fraction_sum(column, several) == (int(place == made), 1)
                for made, several in enumerate(thing) for place, column in enumerate(columns)])


def is_unseen(sight, thing):
    """Whether thing is a POINT, not of 0s alone, of which all VIEWS show 0s."""
    return is_row(thing, sight[0]) and any(thing) and not any([dot(row, thing) for row in all_rows(sight)])


def price(sight, heights, thing):
    """What HEIGHTS times the SHARES come to if thing is a pair of SHARES and a REASON of them; else None."""
    if not isinstance(thing, tuple) or len(thing) != 2 or not are_shares(thing[0], len(heights)):
        return None
    shares, given = thing
    if not is_reason(sight, shares, given):
        return None
    tops, bottom = on_one_bottom(shares)
    top, under = fraction_sum(tops, heights)
    return fraction(top, under * bottom)


def fitting_worth(sight, heights, thing):
    """The worth of thing if it is a FLAG that fits HEIGHTS; else None."""
    return flag_worth(thing) if is_flag(sight[0], thing) and fits(sight, thing, heights) else None


def is_for(told, thing):
    """Whether thing shows that a CLAIM is so."""
    word, sight = told[:2]
    if word == "hold":
        return is_reason(sight, told[2], thing)
    if word == "apart":
        return is_back_table(sight, thing)
    if word == "within":
        several = corners(sight)
        if not isinstance(thing, tuple) or len(thing) != len(several):
            return False
        return all([is_reason(told[2], corner, given) for corner, given in zip(several, thing)])
    if word == "worth":
        much = price(sight, told[2], thing)
        return much is not None and is_at_most(much, told[3])
    much = fitting_worth(sight, told[2], thing)
    return is_unseen(sight, thing) or much is not None and is_at_most(told[3], much)


def is_against(told, thing):
    """Whether thing shows that a CLAIM is not so."""
    word, sight = told[:2]
    if word == "hold":
        return is_break(sight, told[2], thing)
    if word == "apart":
        return is_unseen(sight, thing)
    if word == "within":
        if not isinstance(thing, tuple) or len(thing) != 3 or not are_shares(thing[0], len(sight[1])):
            return False
        shares, given, broken = thing
        return is_reason(sight, shares, given) and is_break(told[2], shares, broken)
    if word == "worth":
        much = fitting_worth(sight, told[2], thing)
        return is_unseen(sight, thing) or much is not None and not is_at_most(much, told[3])
    much = price(sight, told[2], thing)
    return much is not None and not is_at_most(told[3], much)


def shows(claim, thing):
    """True if thing is a PAPER of a CLAIM and it is so, False if it is one and the CLAIM is not, None if it is none."""
    told = held_claim(claim)
    if is_for(told, thing):
        return True
    return False if is_against(told, thing) else None


def is_paper(claim, thing):
    """Whether thing is a PAPER of a CLAIM."""
    return shows(claim, thing) is not None


def about(claim, sight):
    """The CLAIM with this SIGHT in the place of its own first one."""
    told = held_claim(claim)
    return told[:1] + (frozen(sight),) + told[2:]


def not_so(claims):
    """The set of the places of the CLAIMS that are not so."""
    return tuple([place for place, claim in enumerate(claims) if not is_so(claim)])


def turned_by(claims, sight):
    """The set of the places of the CLAIMS that are so and about this SIGHT are not, or the other way about."""
    return tuple([place for place, claim in enumerate(claims) if is_so(claim) != is_so(about(claim, sight))])
