"""Texts [23]."""

import re
import unittest
from fractions import Fraction
from math import gcd
from random import Random

from seenlots.errors import BadLine, BadText, NoPaper
from seenlots.reasons import reason
from seenlots.texts import flag_in, flag_text, fraction_in, fraction_text, powers_in, powers_text, reason_in, reason_text, rows_in, rows_text
from seenlots.texts import shares_in, shares_text, sight_in, sight_text
from tests.shares import HALF, NONE, ONE, fraction, sights, some_shares
from tests.sights import CRATE, EDGES, SLANT, some_sights
from tests.tools import agreed

LEAF = ("leaf",)
NUMBER = r"(0|-?[1-9][0-9]*)"
FRACTION = rf"{NUMBER}(/([2-9]|[1-9][0-9]+))?"
ROW = rf"{NUMBER}( {NUMBER})*"
ROWS = rf"{ROW}(, {ROW})*"
GREAT = 10 ** 399 + 7


def is_lowest(text):
    """Whether each FRACTION with a line in a text is in lowest terms."""
    return all(gcd(*map(int, part.split("/"))) == 1 for part in re.findall(r"-?[0-9]+/[0-9]+", text))


def is_fraction_text(text):
    return re.fullmatch(FRACTION, text) is not None and is_lowest(text)


def is_rows_text(text):
    """Whether a text is that of ROWS, by the document's words."""
    if text == "none":
        return True
    return re.fullmatch(ROWS, text) is not None and len({part.count(" ") for part in text.split(", ")}) == 1


def is_shares_text(text):
    return text == "-" or re.fullmatch(rf"{FRACTION}( {FRACTION})*", text) is not None and is_lowest(text)


def is_powers_text(text):
    return text == "1" or all(re.fullmatch(rf"[1-9][0-9]*\^{FRACTION}", part) and is_lowest(part) for part in text.split(" * "))


def is_flag_text(text):
    if text == "none":
        return True
    for part in text.split(" ; "):
        weight, sign, rows = part.partition(": ")
        if not sign or not is_fraction_text(weight) or Fraction(weight) <= 0 or rows == "none" or not is_rows_text(rows):
            return False
    return True


READERS = [(fraction_in, fraction_text, is_fraction_text), (rows_in, rows_text, is_rows_text), (shares_in, shares_text, is_shares_text),
           (powers_in, powers_text, is_powers_text), (flag_in, flag_text, is_flag_text)]


def told_fraction(pair):
    return str(pair[0]) if pair[1] == 1 else f"{pair[0]}/{pair[1]}"


def told_rows(rows):
    return ", ".join(" ".join(str(part) for part in row) for row in rows) if rows else "none"


def told_shares(shares):
    return " ".join(map(told_fraction, shares)) if shares else "-"


def told_lines(given, blanks=""):
    """The lines of a REASON, one within the other."""
    if given[0] == "leaf":
        return [blanks + "leaf"]
    if given[0] == "split":
        return [blanks + "split " + told_rows(given[1])] + told_lines(given[2], blanks + "  ") + told_lines(given[3], blanks + "  ")
    lines = [blanks + "mix"]
    for much, shares, inner in given[1]:
        lines += [blanks + "  " + told_fraction(much) + " of " + told_shares(shares)] + told_lines(inner, blanks + "    ")
    return lines


def some_number(some):
    return some.choice((0, 1, -1, 7, some.randint(-99, 99), some.randint(-10 ** 12, 10 ** 12), some.choice((GREAT, -GREAT))))


def some_fraction(some):
    return fraction(Fraction(some_number(some), some.choice((1, 1, 2, 3, 12, 10 ** 30))))


def some_rows(some, least=0):
    width = some.randint(1, 4)
    return tuple(tuple(some_number(some) for _ in range(width)) for _ in range(some.randint(least, 3)))


def some_reason(some, deep):
    """A REASON, at most so deep."""
    word = some.choice(("leaf", "mix", "split")) if deep > 1 else "leaf"
    if word == "leaf":
        return LEAF
    if word == "split":
        return ("split", some_rows(some, 1), some_reason(some, deep - 1), some_reason(some, deep - 1))
    return ("mix", tuple((some_fraction(some), tuple(some_fraction(some) for _ in range(some.randint(0, 3))), some_reason(some, deep - 1))
                         for _ in range(some.randint(1, 3))))


def nested(word, deep):
    """A REASON of so many mixes or splits one within the other."""
    given = LEAF
    for _ in range(deep):
        given = ("mix", ((HALF, (ONE,), given),)) if word == "mix" else ("split", ((1, 1),), given, LEAF)
    return given


class Written(unittest.TestCase):
    def check(self, write, read, thing, text):
        self.assertEqual(agreed(self, write, thing), text)
        self.assertEqual(agreed(self, read, text), thing)

    def test_fractions_rows_shares(self):
        some = Random(421)
        for pair in [NONE, ONE, HALF, (-3, 2), (-1, 1), (GREAT, 1), (-GREAT, 2), (1, GREAT)] + [some_fraction(some) for _ in range(60)]:
            self.check(fraction_text, fraction_in, pair, told_fraction(pair))
        for rows in [(), ((0,),), ((-1, 0), (0, 5)), ((GREAT,), (-GREAT,)), ((1,),) * 64] + [some_rows(some) for _ in range(60)]:
            self.check(rows_text, rows_in, rows, told_rows(rows))
        for _ in range(60):
            shares = tuple(some_fraction(some) for _ in range(some.randint(0, 6)))
            self.check(shares_text, shares_in, shares, told_shares(shares))

    def test_powers_and_flags(self):
        some = Random(422)
        for _ in range(80):
            powers = tuple((abs(some_number(some)) or 5, some_fraction(some)) for _ in range(some.randint(0, 5)))
            self.check(powers_text, powers_in, powers, " * ".join(f"{number}^{told_fraction(much)}" for number, much in powers) or "1")
            pairs = [(some_rows(some, 1), some_fraction(some)) for _ in range(some.randint(0, 4))]
            flag = tuple((rows, (abs(top) or 1, bottom if top else 1)) for rows, (top, bottom) in pairs)
            self.check(flag_text, flag_in, flag, " ; ".join(told_fraction(weight) + ": " + told_rows(rows) for rows, weight in flag) or "none")
        self.check(powers_text, powers_in, ((1, NONE),), "1^0")
        self.check(flag_text, flag_in, ((((0,),), ONE), (((0,),), ONE)), "1: 0 ; 1: 0")

    def test_sights(self):
        for sight in [SLANT, CRATE, (1, ())] + list(EDGES) + some_sights(423, 60, 99, (1, 2, 3, 4), 6):
            self.check(sight_text, sight_in, sight, "\n".join([f"size {sight[0]}"] + ["view " + told_rows(view) for view in sight[1]]))
        self.check(sight_text, sight_in, (GREAT, ((),)), f"size {GREAT}\nview none")

    def test_reasons(self):
        some = Random(424)
        for _ in range(150):
            given = some_reason(some, some.choice((1, 2, 3, 4)))
            self.check(reason_text, reason_in, given, "\n".join(told_lines(given)))
        for word in ("mix", "split"):
            self.check(reason_text, reason_in, nested(word, 9), "\n".join(told_lines(nested(word, 9))))
        count = 0
        for number, sight in enumerate(sights(425, 12)):
            for shares in some_shares(number, sight, 1)[::3]:
                try:
                    given = reason(sight, shares)
                except NoPaper:
                    continue
                self.assertEqual(reason_in(reason_text(given)), given)
                count += 1
        self.assertGreater(count, 20)

    def test_deep_ones_are_read(self):
        # However deep: as text, as reading them calls nothing once more for each level.
        for word, levels in (("mix", 29), ("split", 29), ("mix", 400), ("split", 400)):
            lines = []
            for level in range(levels):
                lines += ["    " * level + "mix", "    " * level + "  1/2 of 1"] if word == "mix" else ["  " * level + "split 1 1"]
            lines.append(("    " if word == "mix" else "  ") * levels + "leaf")
            if word == "split":
                lines += ["  " * level + "leaf" for level in range(levels, 0, -1)]
            text = "\n".join(lines)
            given = reason_in(text)
            self.assertEqual(reason_text(given), text)
            deep = 0
            while given != LEAF:
                given = given[1][0][2] if word == "mix" else given[2]
                deep += 1
            self.assertEqual(deep, levels)


class Read(unittest.TestCase):
    def check_line(self, read, write, is_text, text):
        """A text is taken exactly if it is one; what is taken is written again as just this text."""
        if not is_text(text):
            with self.assertRaises(BadText, msg=(read.__name__, text)):
                read(text)
            return False
        self.assertEqual(write(read(text)), text)
        return True

    def test_one_line(self):
        texts = """|0|-0|+1|1|-1|01|-01|00|1.0|1/1|0/1|0/2|2/4|-2/4|1/2|-1/2|1/-2|--1|1/02|1/0|-1/0|1/2/3|1/|/2|1 /2|1/ 2|1e3|1_0|none|none | none|-|- -|0-|x|
            |1 2|1  2| 1 2|1 2 |1, 2|1 ,2|1,2|1 , 2|1 2, 3|1 2, 3 4|1 2,  3 4|1 2, 3 4,|1 2, 3 4, |, 1|1 2; 3 4|none, none|1, none|01 2|- 1|1/2 3/4|1/2  3|1/2 -|
            |2^1|2^1/2|2^|^1|0^1|-2^1|2^2/4|02^1|2^1 * 3^1|2^1* 3^1|2^1 *3^1|2^1  * 3^1|2^1 * |* 2^1|2^1 * 1|1 * 2^1|1^0|1^-1/2|2^1^1|1 ^2|2^1 3^1|
            |1: 1|1/2: 1 1 ; 3: 1 0, 0 1|1: 1;2: 1|1: 1 ; 2: 1|1: 1 ;2: 1|1:1|1 : 1|0: 1|-1: 1|2/4: 1|1: |: 1|1: none|1: 1 ; none|1: 1 2, 3|1: 1: 1|1: 1 ; |1""".split("|")
        texts = [text for text in texts if "\n" not in text] + ["1\n", "\n1", "none\n", "1 2\n", "1\t2", "1: 1\n", "\u00b2", "\u0661", "1\u00a02", "\n", "2^1\n"]
        taken = {read: 0 for read, _, _ in READERS}
        for text in texts:
            for read, write, is_text in READERS:
                taken[read] += self.check_line(read, write, is_text, text)
        self.assertGreater(min(taken.values()), 3)

    def test_changed_at_one_place(self):
        some = Random(426)
        taken = 0
        for _ in range(1500):
            read, write, is_text = some.choice(READERS)
            thing = {fraction_in: some_fraction, rows_in: some_rows, shares_in: lambda _: tuple(some_fraction(some) for _ in range(some.randint(0, 3))),
                     powers_in: lambda _: tuple((some.randint(1, 99), some_fraction(some)) for _ in range(some.randint(0, 3))),
                     flag_in: lambda _: tuple((some_rows(some, 1), some.choice((ONE, HALF, (7, 3)))) for _ in range(some.randint(0, 2)))}[read](some)
            text = write(thing)
            place = some.randint(0, len(text))
            text = text[:place] + some.choice(("", " ", "0", "1", "-", "/", ",", ", ", "^", ":", ";", "*", "\n", "x", "2")) + text[place + some.randint(0, 2):]
            if len(text) < 1200:
                taken += self.check_line(read, write, is_text, text)
        self.assertGreater(taken, 200)

    def test_bad_text(self):
        for read, text in ((powers_in, "0^1/2"), (fraction_in, "2/4"), (rows_in, "1 2, 3"), (flag_in, "0: 1 1"), (shares_in, ""), (fraction_in, "- 1"), (fraction_in, "+ 1")):
            with self.assertRaises(BadText):
                agreed(self, read, text)


def told_sight_line(text):
    """The number of the first line that is not as it should be; None if the text is that of a SIGHT."""
    lines = text.split("\n") if text else []
    if not lines or not re.fullmatch(r"size [1-9][0-9]*", lines[0]):
        return 0
    for number, line in enumerate(lines[1:], 1):
        if not line.startswith("view ") or not is_rows_text(line[5:]):
            return number
    size = int(lines[0][5:])
    for number, line in enumerate(lines[1:], 1):
        if line != "view none" and any(part.count(" ") + 1 != size for part in line[5:].split(", ")):
            return number
    return None


def told_reason_line(text):
    """The number of the first line with which no text of a REASON goes on; the count of lines if none ends there; or None."""
    lines = text.split("\n") if text else []
    furthest = 0

    def ends(at, deep):
        """All places behind a REASON that begins at a line, so deep."""
        nonlocal furthest
        if at >= len(lines):
            return []
        blanks, line = " " * deep, lines[at]
        if line == blanks + "leaf":
            furthest = max(furthest, at + 1)
            return [at + 1]
        if line == blanks + "mix":
            furthest = max(furthest, at + 1)
            return parts_end(at + 1, deep + 2)
        if line.startswith(blanks + "split ") and line != blanks + "split none" and is_rows_text(line[deep + 6:]):
            furthest = max(furthest, at + 1)
            return [last for middle in ends(at + 1, deep + 2) for last in ends(middle, deep + 2)]
        return []

    def parts_end(at, deep):
        if at >= len(lines) or not lines[at].startswith(" " * deep):
            return []
        much, word, shares = lines[at][deep:].partition(" of ")
        if not word or not is_fraction_text(much) or not is_shares_text(shares):
            return []
        furthest_here(at + 1)
        found = []
        for last in ends(at + 1, deep + 2):
            found += [last] + parts_end(last, deep)
        return found

    def furthest_here(at):
        nonlocal furthest
        furthest = max(furthest, at)

    return None if len(lines) in ends(0, 0) else furthest


class Lines(unittest.TestCase):
    def test_sights(self):
        for text, number in (("", 0), ("\n", 0), ("size 0", 0), ("size 01", 0), ("size -1", 0), ("size", 0), ("size ", 0), (" size 1", 0), ("size 1 ", 0), ("view 1", 0),
                             ("view 1\nsize 1", 0), ("size 1\n", 1), ("size 1\nsize 1", 1), ("size 1\nview 1\n", 2), ("size 1\nview 1\n\nview 2", 2),
                             ("size 2\nview 1 0 0", 1), ("size 2\nview 1 0 0\nview x", 2), ("size 2\nview 1 0\nview 1, 2", 2), ("size 2\nview 1 0, 1\nview 1", 1),
                             ("size 1\nview", 1), ("size 1\nview ", 1), ("size 1\n view 1", 1), ("size 1\nview  1", 1), ("size 1\nview 1 ", 1), ("size 1\nviews 1", 1),
                             ("size 3\nview none\nview 1 2\nview 1 2 3", 2), ("size 1\nview 1\nview 1 1\nsize 1", 3), ("size 1/2", 0), ("size 1\nview 1/2", 1)):
            with self.assertRaises(BadLine, msg=text) as caught:
                agreed(self, sight_in, text)
            self.assertEqual(caught.exception.number, number, text)
            self.assertEqual(told_sight_line(text), number, text)

    def test_reasons(self):
        for text, number in (("", 0), ("\n", 0), ("leaf\n", 1), ("leaf\nleaf", 1), (" leaf", 0), ("leaf ", 0), ("leave", 0), ("mix", 1), ("mix\n", 1), ("mix\n  leaf", 1),
                             ("mix\n  1 of -", 2), ("mix\n  1 of -\n  leaf", 2), ("mix\n  1 of -\n      leaf", 2), ("mix\n  1 of -\n    leaf\n", 3),
                             ("mix\n  1 of -\n    leaf\n  leaf", 3), ("mix\n  1 of -\n    leaf\n    1 of -", 3), ("mix\n 1 of -\n   leaf", 1), ("mix\n  1 of\n    leaf", 1),
                             ("mix\n  1 of \n    leaf", 1), ("mix\n  2/4 of -\n    leaf", 1), ("mix\n  1 of 1  2\n    leaf", 1), ("mix\n  1  of 1\n    leaf", 1), ("1 of -", 0),
                             ("split 1 1", 1), ("split 1 1\n  leaf", 2), ("split 1 1\n  leaf\n  leaf\n  leaf", 3), ("split 1 1\n  leaf\n leaf", 2), ("split none\n  leaf\n  leaf", 0),
                             ("split 1 1, 2\n  leaf\n  leaf", 0), ("split\n  leaf\n  leaf", 0), ("split \n  leaf\n  leaf", 0), ("split  1\n  leaf\n  leaf", 0),
                             ("split 1\n  mix\n    1 of 1\n      leaf\n    1 of 1\n  leaf", 5), ("split 1\n  mix\n    1 of 1\n      leaf\n  1 of 1\n  leaf", 4),
                             ("split 1\n  mix\n    1 of 1\n      leaf\n\n  leaf", 4), ("split 1\n  leaf\n  mix", 3), ("  leaf", 0)):
            with self.assertRaises(BadLine, msg=text) as caught:
                agreed(self, reason_in, text)
            self.assertEqual(caught.exception.number, number, text)
            self.assertEqual(told_reason_line(text), number, text)

    def check_drawn(self, read, write, told_line, text):
        number = told_line(text)
        if number is None:
            self.assertEqual(write(read(text)), text)
            return 1
        with self.assertRaises(BadLine, msg=text) as caught:
            read(text)
        self.assertEqual(caught.exception.number, number, text)
        return 0

    def test_changed_at_one_place(self):
        some = Random(427)
        taken = [0, 0]
        for _ in range(700):
            for place, (read, write, told_line, thing) in enumerate((
                    (reason_in, reason_text, told_reason_line, some_reason(some, some.choice((1, 2, 3, 4)))),
                    (sight_in, sight_text, told_sight_line, some.choice([SLANT, CRATE] + list(EDGES))))):
                text = write(thing)
                lines = text.split("\n")
                way = some.randint(0, 4)
                if way == 0:
                    lines.pop(some.randrange(len(lines)))
                elif way == 1:
                    lines.insert(some.randint(0, len(lines)), some.choice(lines + ["", "leaf", "  leaf", "mix", "  1 of -", "view 1"]))
                elif way == 2:
                    at = some.randrange(len(lines))
                    lines[at] = some.choice((" " + lines[at], "  " + lines[at], lines[at][1:], lines[at][2:], lines[at] + " ", lines[at][:-1]))
                elif way == 3:
                    one, other = some.randrange(len(lines)), some.randrange(len(lines))
                    lines[one], lines[other] = lines[other], lines[one]
                text = "\n".join(lines)
                if way == 4:
                    at = some.randint(0, len(text))
                    text = text[:at] + some.choice(("", " ", "\n", "1", "0", "-")) + text[at + some.randint(0, 1):]
                taken[place] += self.check_drawn(read, write, told_line, text)
        self.assertGreater(min(taken), 60)


if __name__ == "__main__":
    unittest.main()
