"""Texts: FRACTIONS, ROWS, SHARES, POWERS, FLAGS, SIGHTS and REASONS written out, and read again.

What is written in one line is read by a function that returns None if the text is that of nothing.
"""

from math import gcd

from seenlots.errors import BadLine, BadText


def fraction_text(fraction):
    """The text of a FRACTION."""
    top, bottom = fraction
    return f"{top}" if bottom == 1 else f"{top}/{bottom}"


def row_text(row):
    """The numbers of a ROW as words."""
    return " ".join([str(number) for number in row])


def rows_text(rows):
    """The text of ROWS."""
    return ", ".join([row_text(row) for row in rows]) if len(rows) > 0 else "none"


def shares_text(shares):
    """The text of SHARES."""
    return " ".join([fraction_text(share) for share in shares]) if len(shares) > 0 else "-"


def powers_text(powers):
    """The text of POWERS."""
    several = [(number, fraction_text(much)) for number, much in powers]
    return " * ".join([f"{number}^{much}" for number, much in several]) if several else "1"


def flag_text(flag):
    """The text of a FLAG."""
    several = [(fraction_text(weight), rows_text(space)) for space, weight in flag]
    return " ; ".join([f"{weight}: {space}" for weight, space in several]) if several else "none"


def sight_text(sight):
    """The text of a SIGHT."""
    size, views = sight
    return "\n".join([f"size {size}"] + ["view " + rows_text(view) for view in views])


def reason_text(reason):
    """The text of a REASON."""
    lines = []
    waiting = [("", reason)]
    while waiting:
        blanks, told = waiting.pop()
        deeper = blanks + "  "
        if not isinstance(told[0], str):
            much, shares, inner = told
            lines.append(blanks + fraction_text(much) + " of " + shares_text(shares))
            waiting.append((deeper, inner))
        elif told[0] == "split":
            lines.append(blanks + "split " + rows_text(told[1]))
            waiting.extend([(deeper, told[3]), (deeper, told[2])])
        else:
            lines.append(blanks + told[0])
            parts = told[1] if told[0] == "mix" else ()
            waiting.extend([(deeper, part) for part in reversed(parts)])
    return "\n".join(lines)


def number_of(text):
    """The number with this text; None if there is none."""
    figures = text[1:] if text.startswith("-") else text
    if not figures.isascii() or not figures.isdigit() or figures[0] == "0" and text != "0":
        return None
    return int(text)


def fraction_of(text):
    """The FRACTION with this text; None if there is none."""
    over, line, under = text.partition("/")
    top = number_of(over)
    if top is None or line == "":
        return None if top is None else (top, 1)
    bottom = number_of(under)
    if bottom is None or bottom < 2 or gcd(top, bottom) != 1:
        return None
    return top, bottom


def several_of(found):
    """What was found, as a tuple; None if one of it is None."""
    return None if None in found else tuple(found)


def row_of(text):
    """The ROW with this text; None if there is none."""
    return several_of([number_of(word) for word in text.split(" ")])


def rows_of(text):
    """The ROWS with this text; None if there are none."""
    if text == "none":
        return ()
    rows = several_of([row_of(part) for part in text.split(", ")])
    if rows is None or not all([len(row) == len(rows[0]) for row in rows]):
        return None
    return rows


def shares_of(text):
    """The SHARES with this text; None if there are none."""
    return () if text == "-" else several_of([fraction_of(word) for word in text.split(" ")])


def power_of(text):
    """The pair of POWERS with this text; None if there is none."""
    over, _, under = text.partition("^")
    number, much = number_of(over), fraction_of(under)
    return None if number is None or number < 1 or much is None else (number, much)


def weighted_of(text):
    """The pair of ROWS and a weight with this text; None if there is none."""
    over, _, under = text.partition(": ")
    weight, rows = fraction_of(over), rows_of(under)
    return None if weight is None or weight[0] < 1 or not rows else (rows, weight)


def held(found):
    """What was found; raises BadText if it is None."""
    if found is None:
        raise BadText()
    return found


def fraction_in(text):
    """The FRACTION with this text."""
    return held(fraction_of(text))


def rows_in(text):
    """The ROWS with this text."""
    return held(rows_of(text))


def shares_in(text):
    """The SHARES with this text."""
    return held(shares_of(text))


def powers_in(text):
    """The POWERS with this text."""
    return () if text == "1" else held(several_of([power_of(part) for part in text.split(" * ")]))


def flag_in(text):
    """The FLAG with this text."""
    return () if text == "none" else held(several_of([weighted_of(part) for part in text.split(" ; ")]))


def lines_of(text):
    """The lines of a text."""
    return text.split("\n") if text != "" else []


def behind_word(line, word):
    """What stands behind a word and a blank; the empty text, which is that of nothing, if the line begins otherwise."""
    return line[len(word) + 1:] if line.startswith(word + " ") else ""


def sight_in(text):
    """The SIGHT with this text."""
    lines = lines_of(text)
    size = number_of(behind_word(lines[0], "size")) if lines else None
    if size is None or size < 1:
        raise BadLine(0)
    views = []
    for number, line in enumerate(lines[1:], 1):
        view = rows_of(behind_word(line, "view"))
        if view is None:
            raise BadLine(number)
        views.append(view)
    for number, view in enumerate(views, 1):
        if not all([len(row) == size for row in view]):
            raise BadLine(number)
    return size, tuple(views)


def reason_in(text):
    """The REASON with this text."""
    lines = lines_of(text)
    # For each line what it tells, and the numbers of the lines of what is in it.
    told = []
    # What has to come, or may come, the next at the end: whether a part, how deep, in which line's, whether it has to.
    waiting = [(False, 0, None, True)]
    for number, line in enumerate(lines):
        part, deep, owner, found = next_line(line, waiting)
        if found is None:
            raise BadLine(number)
        if owner is not None:
            told[owner][1].append(number)
        told.append((found, []))
        if part:
            waiting.extend([(True, deep, owner, False), (False, deep + 2, number, True)])
        elif found[0] == "mix":
            waiting.append((True, deep + 2, number, True))
        elif found[0] == "split":
            waiting.extend([(False, deep + 2, number, True)] * 2)
    if any([must for _, _, _, must in waiting]):
        raise BadLine(len(lines))
    return joined_lines(told)


def next_line(line, waiting):
    """What of all that is waiting the line is, with what it tells; this is None if it is nothing of it."""
    while waiting:
        part, deep, owner, must = waiting.pop()
        rest = line[deep:] if line.startswith(" " * deep) else ""
        found = part_of(rest) if part else node_of(rest)
        if found is not None or must:
            return part, deep, owner, found
    return False, 0, None, None


def part_of(text):
    """The pair of much and shares with which a part of a mix begins; None if there is none."""
    over, _, under = text.partition(" of ")
    return several_of([fraction_of(over), shares_of(under)])


def node_of(text):
    """The word, and the ROWS of a split, with which a REASON begins; None if there is none."""
    if text == "leaf" or text == "mix":
        return (text,)
    rows = rows_of(behind_word(text, "split"))
    return ("split", rows) if rows else None


def joined_lines(told):
    """What the first line begins, told what each line tells and which lines it has in it, all further behind."""
    made = [None] * len(told)
    for number in reversed(range(len(told))):
        found, inner = told[number]
        parts = tuple([made[own] for own in inner])
        made[number] = found + ((parts,) if found[0] == "mix" else parts)
    return made[0]
