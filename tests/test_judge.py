"""Claims, and one judge for all papers [22]."""

import unittest
from fractions import Fraction
from functools import lru_cache
from random import Random

from seenlots.errors import NoWord, Unfit
from seenlots.judge import about, is_claim, is_paper, is_so, not_so, paper, shows, turned_by
from seenlots.region import corners, least_sum
from seenlots.spaces import is_space
from tests.shares import BLIND, FRACTIONS, GREAT, HALF, NONE, ONE, ROOM, fraction, is_blind, sights, some_shares, told_holds, value, values
from tests.sights import CRATE, EDGES, SLANT, some_sights
from tests.test_breaks import told_enough
from tests.test_flags import told_flag, told_heights, told_worth
from tests.test_reasons import judged
from tests.test_region import some_heights
from tests.tools import ODD, agreed, check_thing, deep, dot, lists, rank, spoiled

LEAF = ("leaf",)
TWO, FLAT = (2, (((1, 0),), ((0, 1),))), (2, (((1, 0),), ((2, 0),)))
BOTH = (2, (((1, 0), (0, 1)), ()))
WHOLE = ((1, 0), (0, 1))
WORDS = ("hold", "worth", "apart", "within", "reach")
SIGHTS = sights(411, 8)
GREATER = [sight for sight in some_sights(412, 40, 99, sizes=(4,), views=6)] + [(4, ()), (4, (((1, 0, 0, 0), (0, 1, 0, 0)), ((0, 0, 1, 0), (0, 0, 0, 1))))]


def is_told_fraction(thing):
    if type(thing) is not tuple or len(thing) != 2 or any(type(part) is not int for part in thing) or thing[1] < 1:
        return False
    return fraction(value(thing)) == thing


def are_told_shares(thing, many):
    return type(thing) is tuple and len(thing) == many and all(is_told_fraction(part) and 0 <= value(part) <= 1 for part in thing)


def is_tree(thing, many):
    """Whether thing is made as a REASON of so many shares is."""
    if type(thing) is not tuple or not thing or type(thing[0]) is not str:
        return False
    if thing[0] == "leaf":
        return len(thing) == 1
    if thing[0] == "split":
        return len(thing) == 4 and type(thing[1]) is tuple and all(type(row) is tuple for row in thing[1]) and is_tree(thing[2], many) and (
            is_tree(thing[3], many))
    return thing[0] == "mix" and len(thing) == 2 and type(thing[1]) is tuple and all(
        type(part) is tuple and len(part) == 3 and is_told_fraction(part[0]) and are_told_shares(part[1], many) and is_tree(part[2], many)
        for part in thing[1])


def is_told_reason(sight, shares, thing):
    return is_tree(thing, len(shares)) and judged(sight, shares, thing)


def is_told_break(sight, shares, thing):
    if type(thing) is not tuple or len(thing) != 2 or not is_space(thing[0], sight[0]):
        return False
    return type(thing[1]) is int and thing[1] >= 1 and told_enough(sight, shares, thing[0], thing[1])


def is_told_point(sight, thing):
    """Whether thing is a POINT, not of 0s, of which all VIEWS show 0s."""
    if type(thing) is not tuple or len(thing) != sight[0] or any(type(part) is not int for part in thing) or not any(thing):
        return False
    return all(dot(row, thing) == 0 for view in sight[1] for row in view)


def told_price(sight, heights, thing):
    """The sum of a pair of SHARES and a REASON of them; None if thing is none."""
    if type(thing) is not tuple or len(thing) != 2 or not are_told_shares(thing[0], len(heights)) or not is_told_reason(sight, *thing):
        return None
    return sum(one * other for one, other in zip(values(heights), values(thing[0])))


def told_fitting(sight, heights, thing):
    """The worth of a FLAG that fits; None if thing is none."""
    if type(thing) is not tuple or not all(type(part) is tuple and len(part) == 2 and is_space(part[0], sight[0]) and is_told_fraction(part[1])
                                           for part in thing):
        return None
    if not told_flag(sight[0], thing) or any(much > most for much, most in zip(told_heights(sight, thing), values(heights))):
        return None
    return told_worth(thing)


def is_told_back(sight, thing):
    rows = [row for view in sight[1] for row in view]
    if type(thing) is not tuple or len(thing) != sight[0]:
        return False
    if not all(type(part) is tuple and len(part) == len(rows) and all(is_told_fraction(much) for much in part) for part in thing):
        return False
    return all(sum((value(much) * row[place] for much, row in zip(part, rows)), Fraction(0)) == int(place == own)
               for own, part in enumerate(thing) for place in range(sight[0]))


def told_shows(claim, thing):
    """What thing shows of a CLAIM, by the document's table."""
    word, sight = claim[:2]
    if word == "hold":
        return True if is_told_reason(sight, claim[2], thing) else False if is_told_break(sight, claim[2], thing) else None
    if word == "apart":
        return True if is_told_back(sight, thing) else False if is_told_point(sight, thing) else None
    if word == "within":
        several = corners(sight)
        if type(thing) is tuple and len(thing) == len(several) and all(is_told_reason(claim[2], *pair) for pair in zip(several, thing)):
            return True
        if type(thing) is tuple and len(thing) == 3 and are_told_shares(thing[0], len(sight[1])) and is_told_reason(sight, *thing[:2]):
            return False if is_told_break(claim[2], thing[0], thing[2]) else None
        return None
    much = value(claim[3])
    price, worth = told_price(sight, claim[2], thing), told_fitting(sight, claim[2], thing)
    if word == "worth":
        if price is not None and price <= much:
            return True
        return False if worth is not None and worth > much or is_told_point(sight, thing) else None
    if worth is not None and worth >= much or is_told_point(sight, thing):
        return True
    return False if price is not None and price < much else None


def told_so(claim):
    """Whether a CLAIM is so, by the kinds that are there and their corners."""
    word, sight = claim[:2]
    if word == "hold":
        return told_holds(sight, claim[2])
    if word == "apart":
        return not is_blind(sight)
    if word == "within":
        return all(told_holds(claim[2], corner) for corner in corners(sight))
    if is_blind(sight):
        return word == "reach"
    least = value(least_sum(sight, claim[2])[0])
    return least <= value(claim[3]) if word == "worth" else least >= value(claim[3])


@lru_cache(maxsize=None)
def claims_of(sight, seed):
    """CLAIMS about a SIGHT, such that are so and such that are not."""
    some = Random(seed)
    found = [("apart", sight)]
    found += [("hold", sight, shares) for shares in some_shares(seed, sight, 1)[::3]]
    for heights in some.sample(some_heights(seed, sight, 2), 3):
        just = Fraction(3, 2) if is_blind(sight) else value(least_sum(sight, heights)[0])
        for much in sorted({just, just - Fraction(1, 12), just + Fraction(1, 10 ** 12), Fraction(some.randint(-3, 30), some.randint(1, 12)), Fraction(0), Fraction(-5, 7)}):
            found += [(word, sight, heights, fraction(much)) for word in ("worth", "reach")]
    others = [other for other in SIGHTS if len(other[1]) == len(sight[1])]
    found += [("within", sight, other) for other in some.sample(others, min(3, len(others)))]
    return found


def all_claims(step=1):
    for number, sight in list(enumerate(SIGHTS))[::step]:
        for claim in claims_of(sight, number + 500):
            yield claim


class Claims(unittest.TestCase):
    def test_is_claim(self):
        good = [("hold", TWO, (ONE, HALF)), ("worth", TWO, (ONE, (1000, 7)), (-3, 2)), ("apart", TWO), ("apart", (1, ())), ("within", TWO, BOTH),
                ("reach", CRATE, ((5, 1), NONE, HALF), ONE), ("hold", (4, ()), ()), ("within", (1, ()), (7, ())), ("reach", (9, ()), (), NONE),
                ("worth", (1, (((10 ** 30,),),)), ((10 ** 30, 7),), (1, 10 ** 30))]
        check_thing(self, is_claim, good=good)
        for thing in (("hold", TWO), ("hold", TWO, (ONE,)), ("hold", TWO, (ONE, (3, 2))), ("hold", TWO, (ONE, (-1, 2))), ("hold", TWO, (ONE, (2, 4))),
                      ("hold", TWO, (ONE, ONE), ()), ("loud", TWO), ("Hold", TWO, (ONE, ONE)), ("apart", (0, ())), ("apart", (2, (((1,),),))), ("apart",), (),
                      ("within", TWO, (2, ())), ("within", TWO, TWO, TWO), ("within", TWO, ((1, 0),)), ("worth", TWO, (ONE, (-1, 1)), ONE),
                      ("worth", TWO, (ONE, ONE), 1), ("reach", TWO, (ONE, ONE), (2, 4)), ("reach", TWO, (ONE, ONE)), (TWO, "apart"), "apart", (1, TWO),
                      (("apart",), TWO), (None, TWO), ([], TWO), ("apart", deep(tuple, 99)), deep(tuple, 100), ("hold", TWO, deep(tuple, 99))):
            self.assertIs(is_claim(thing), False, thing)
        for claim in all_claims(3):
            self.assertIs(is_claim(claim), True)
            self.assertIs(is_claim(lists(claim)), False)
        self.assertIs(agreed(self, is_claim, ("apart", TWO)), True)

    def test_is_so(self):
        counts = {}
        for claim in all_claims():
            so = is_so(claim)
            self.assertIs(so, told_so(claim), claim)
            counts[claim[0], so] = counts.get((claim[0], so), 0) + 1
        self.assertEqual(set(counts), {(word, so) for word in WORDS for so in (True, False)})
        self.assertGreater(min(counts.values()), 5)
        for claim in list(all_claims())[::9]:
            agreed(self, is_so, claim)

    def test_apart_in_greater_sights(self):
        seen = set()
        for sight in GREATER + list(EDGES):
            so = agreed(self, is_so, ("apart", sight))
            self.assertIs(so, not is_blind(sight))
            thing = agreed(self, paper, ("apart", sight))
            self.assertIs(told_shows(("apart", sight), thing), so)
            self.assertIs(shows(("apart", sight), thing), so)
            seen.add(so)
        self.assertEqual(seen, {True, False})

    def test_greater_shares_and_rows(self):
        # What was "hold" stays so with a greater share, with a ROW more in a VIEW.
        some = Random(413)
        for claim in all_claims():
            if claim[0] == "hold" and claim[2] and is_so(claim):
                _, (size, views), shares = claim
                number = some.randrange(len(shares))
                more = tuple(ONE if k == number else share for k, share in enumerate(shares))
                self.assertTrue(is_so(("hold", (size, views), more)))
                row = tuple(some.randint(-2, 2) for _ in range(size))
                wider = views[:number] + (views[number] + (row,),) + views[number + 1:]
                self.assertTrue(is_so(("hold", (size, wider), shares)))


class Papers(unittest.TestCase):
    def test_each_claim_has_one(self):
        for number, claim in enumerate(all_claims()):
            thing = agreed(self, paper, claim) if number % 11 == 0 else paper(claim)
            so = told_so(claim)
            self.assertIs(told_shows(claim, thing), so, (claim, thing))
            self.assertIs(shows(claim, thing), so, (claim, thing))
            self.assertIs(is_paper(claim, thing), True)
            self.assertEqual(paper(claim), thing)
            if number % 11 == 0:
                self.assertIs(agreed(self, shows, claim, thing), so)
                self.assertIs(agreed(self, is_paper, claim, thing), True)

    def test_papers_of_others(self):
        # What shows one CLAIM so, or not so, is told right of others; never both ways.
        for sight in (TWO, FLAT, SLANT, CRATE, (1, ()), BLIND[5], ROOM[4], (1, (((2,),), ((0,),)))):
            claims = claims_of(sight, 77)
            things = [paper(claim) for claim in claims] + [(), LEAF, (0,) * sight[0], ((),)]
            for claim in claims:
                for thing in things:
                    told = shows(claim, thing)
                    self.assertIs(told, told_shows(claim, thing), (claim, thing))
                    self.assertIs(is_paper(claim, thing), told is not None)
                    if told is not None:
                        self.assertIs(told, told_so(claim))

    def test_bent_at_one_place(self):
        some = Random(414)
        changed = 0
        for claim in list(all_claims(4))[::3]:
            thing = paper(claim)
            for _ in range(6):
                other = bent(some, thing)
                told = shows(claim, other)
                self.assertIs(told, told_shows(claim, other), (claim, other))
                changed += told is None
            for other in list(spoiled(thing))[:60:7]:
                self.assertIsNone(shows(claim, other), (claim, other))
                self.assertIs(is_paper(claim, other), False)
        self.assertGreater(changed, 100)

    def test_both_kinds(self):
        for claim, thing, expected in (
                (("hold", TWO, (ONE, ONE)), LEAF, True), (("hold", TWO, (ONE, ONE)), ((), 1), None), (("hold", TWO, (ONE, HALF)), (((0, 1),), 2), False),
                (("hold", TWO, (ONE, HALF)), (((0, 1),), 1), None), (("hold", TWO, (ONE, HALF)), (((1, 0),), 2), None),
                (("worth", TWO, (ONE, ONE), (2, 1)), ((ONE, ONE), LEAF), True), (("worth", TWO, (ONE, ONE), (3, 2)), ((ONE, ONE), LEAF), None),
                (("worth", TWO, (ONE, ONE), (3, 2)), ((WHOLE, ONE),), False), (("worth", TWO, (ONE, ONE), (2, 1)), ((WHOLE, ONE),), None),
                (("worth", TWO, (ONE, ONE), (3, 2)), ((WHOLE, (2, 1)),), None), (("worth", TWO, (ONE, ONE), (-1, 2)), (), False),
                (("worth", TWO, (NONE, NONE), NONE), ((ONE, ONE), LEAF), True), (("worth", TWO, (NONE, NONE), NONE), (), None),
                (("worth", FLAT, (ONE, ONE), (99, 1)), (0, 3), False), (("worth", FLAT, (ONE, ONE), (99, 1)), ((((0, 1),), (100, 1)),), False),
                (("worth", FLAT, (ONE, ONE), (99, 1)), ((((0, 1),), (99, 1)),), None), (("worth", FLAT, (ONE, ONE), (99, 1)), (1, 3), None),
                (("reach", TWO, (ONE, ONE), (2, 1)), ((WHOLE, ONE),), True), (("reach", TWO, (ONE, ONE), NONE), (), True),
                (("reach", TWO, (ONE, ONE), (5, 2)), ((ONE, ONE), LEAF), False), (("reach", TWO, (ONE, ONE), (2, 1)), ((ONE, ONE), LEAF), None),
                (("reach", FLAT, (ONE, ONE), (99, 1)), (0, 3), True), (("reach", FLAT, (ONE, ONE), (99, 1)), ((((0, 1),), (100, 1)),), True),
                (("reach", FLAT, (ONE, ONE), (99, 1)), (0, 0), None), (("apart", FLAT), (0, -1), False), (("apart", FLAT), (0, 0), None),
                (("apart", TWO), ((ONE, NONE), (NONE, ONE)), True), (("apart", TWO), ((NONE, ONE), (ONE, NONE)), None),
                (("apart", (1, (((2,),), ((3,),)))), (((-1, 1), ONE),), True), (("apart", (1, (((2,),), ((3,),)))), ((HALF, NONE),), True),
                (("apart", (1, (((2,),), ((3,),)))), ((ONE, (-1, 1)),), None),
                (("within", TWO, BOTH), (LEAF,), True), (("within", BOTH, TWO), ((ONE, NONE), LEAF, (((0, 1),), 2)), False),
                (("within", BOTH, TWO), ((ONE, HALF), LEAF, (((0, 1),), 2)), False), (("within", BOTH, TWO), ((ONE, ONE), LEAF, (((0, 1),), 2)), None),
                (("within", BOTH, TWO), ((ONE, NONE), LEAF, (((0, 1),), 1)), None), (("within", FLAT, TWO), (), True), (("within", FLAT, TWO), (LEAF,), None),
                (("within", (2, ()), (3, ())), (), True)):
            self.assertIs(agreed(self, shows, claim, thing), expected, (claim, thing))
            self.assertIs(told_shows(claim, thing), expected, (claim, thing))

    def test_odd_things(self):
        for claim in (("hold", TWO, (ONE, ONE)), ("hold", TWO, (ONE, HALF)), ("worth", TWO, (ONE, ONE), (3, 2)), ("worth", FLAT, (ONE, ONE), (3, 2)),
                      ("apart", TWO), ("apart", FLAT), ("within", TWO, BOTH), ("within", BOTH, TWO), ("reach", TWO, (ONE, ONE), (2, 1)),
                      ("reach", FLAT, (ONE, ONE), (2, 1)), ("reach", TWO, (ONE, ONE), (5, 2)), ("hold", (1, ()), ())):
            good = paper(claim)
            check_thing(self, is_paper, claim, good=[good])
            for thing in ODD + (deep(tuple, 100), ("mix", deep(tuple, 99)), ("split", deep(tuple, 99), LEAF, LEAF), (LEAF, deep(tuple, 99))):
                told = shows(claim, thing)
                self.assertIn(told, (True, False, None))
                self.assertIs(told, told_shows(claim, thing) if is_plain_tuple(thing) else None, (claim, thing))

    def test_at_the_bounds(self):
        some = Random(415)
        for sight in [sight for sight in GREAT if not is_blind(sight)][:10]:
            shares = tuple(some.choice(FRACTIONS) for _ in sight[1])
            heights = tuple(fraction(Fraction(some.randint(0, 1000), some.randint(1, 12))) for _ in sight[1])
            just = least_sum(sight, heights)[0]
            claims = [("hold", sight, (HALF,) * 3 + (ONE,)), ("within", sight, GREAT[0]), ("apart", sight)]
            claims += [(word, sight, heights, much) for word in ("worth", "reach") for much in (just, fraction(value(just) + Fraction(1, 10 ** 9)))]
            for claim in claims:
                so = is_so(claim)
                self.assertIs(shows(claim, paper(claim)), so)
                self.assertIs(told_so(claim), so)
            self.assertIn(is_so(("hold", sight, shares)), (True, False))


def is_plain_tuple(thing):
    """Whether a thing has no list in it."""
    return type(thing) is not list and (type(thing) is not tuple or all(is_plain_tuple(part) for part in thing))


def bent(some, thing):
    """The thing with one of its numbers or words changed."""
    places = list(leaves(thing, ()))
    if not places:
        return thing + thing
    return changed_at(some, thing, some.choice(places))


def leaves(thing, path):
    if isinstance(thing, tuple):
        for place, part in enumerate(thing):
            yield from leaves(part, path + (place,))
    else:
        yield path


def changed_at(some, thing, path):
    if not path:
        if isinstance(thing, str):
            return some.choice(("leaf", "mix", "split", "loud"))
        return thing + some.choice((1, -1, 2, 7))
    return thing[:path[0]] + (changed_at(some, thing[path[0]], path[1:]),) + thing[path[0] + 1:]


class Several(unittest.TestCase):
    def test_about(self):
        for claim in list(all_claims())[::5]:
            for sight in (TWO, (1, ()), CRATE):
                told = agreed(self, about, claim, sight)
                self.assertEqual(told, claim[:1] + (sight,) + claim[2:])
        # Of the new SIGHT nothing is asked.
        self.assertEqual(about(("within", TWO, BOTH), (3, ())), ("within", (3, ()), BOTH))

    def test_not_so(self):
        claims = list(all_claims())
        some = Random(416)
        for _ in range(25):
            several = tuple(some.sample(claims, some.randint(0, 8)))
            self.assertEqual(agreed(self, not_so, several), tuple(place for place, claim in enumerate(several) if not told_so(claim)))
        self.assertEqual(not_so(()), ())

    def test_turned_by(self):
        some = Random(417)
        count = 0
        for _ in range(60):
            sight, other = some.choice(SIGHTS), some.choice(SIGHTS)
            if len(sight[1]) != len(other[1]):
                continue
            claims = claims_of(sight, 78)
            several = tuple(some.sample(claims, min(len(claims), 8)))
            expected = tuple(place for place, claim in enumerate(several) if told_so(claim) != told_so(claim[:1] + (other,) + claim[2:]))
            self.assertEqual(agreed(self, turned_by, several, other), expected)
            count += len(expected)
        self.assertGreater(count, 10)
        self.assertEqual(turned_by((), TWO), ())
        # "apart" takes a SIGHT with however many VIEWS.
        self.assertEqual(turned_by((("apart", TWO), ("apart", FLAT)), (2, ())), (0,))
        self.assertEqual(turned_by((("apart", TWO), ("apart", FLAT)), (1, (((1,),),))), (1,))

    def test_no_word_then_unfit(self):
        bad = [(("loud", TWO), NoWord), (("loud", TWO, (ONE, ONE)), NoWord), (("", TWO), NoWord), (("Hold", TWO, (ONE, ONE)), NoWord), (("hold", TWO), Unfit),
               (("hold", TWO, (ONE, ONE), ONE), Unfit), (("worth", TWO, (ONE, ONE)), Unfit), (("reach", TWO, (ONE, ONE)), Unfit), (("apart", TWO, TWO), Unfit),
               (("within", TWO), Unfit), (("within", TWO, (2, ())), Unfit), (("within", (2, ()), TWO), Unfit), (("within", TWO, (2, ()), TWO), Unfit)]
        good = ("hold", TWO, (ONE, HALF))
        for claim, error in bad:
            calls = [(is_so, (claim,)), (paper, (claim,)), (about, (claim, TWO)), (not_so, ((good, claim),)), (turned_by, ((good, claim), TWO))]
            calls += [(function, (claim, thing)) for function in (shows, is_paper) for thing in (LEAF, None, True, [], deep(list, 100))]
            for function, args in calls:
                with self.assertRaises(error) as caught:
                    agreed(self, function, *args)
                if error is NoWord:
                    self.assertEqual(caught.exception.word, claim[0])
            self.assertIs(is_claim(claim), False)

    def test_one_claim_whole_then_the_next(self):
        loud, short = ("loud", TWO), ("hold", TWO)
        for claims, error in (((loud, short), NoWord), ((short, loud), Unfit), ((("apart", TWO), short, loud), Unfit)):
            with self.assertRaises(error):
                agreed(self, not_so, claims)
            with self.assertRaises(error):
                agreed(self, turned_by, claims, TWO)
        # About the SIGHT "within" is Unfit, ahead of the next one's word.
        with self.assertRaises(Unfit):
            agreed(self, turned_by, (("within", TWO, BOTH), loud), (2, ()))
        with self.assertRaises(NoWord):
            agreed(self, turned_by, (("apart", TWO), loud, ("within", TWO, BOTH)), (2, ()))


if __name__ == "__main__":
    unittest.main()
