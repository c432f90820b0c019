"""A desk [25]."""

import re
import unittest
from random import Random

from seenlots.board import Board
from seenlots.bounds import most_points
from seenlots.desk import is_request, last_board, replies
from seenlots.errors import BadLine, NoNumber, NothingDone, NoView, Unfit
from seenlots.holds import greatest_excess, holds, least_space
from seenlots.spaces import is_space
from seenlots.texts import fraction_in, fraction_text, rows_in, rows_text
from seenlots.views import dims, kernel
from tests.shares import FRACTIONS, value
from tests.test_texts import FRACTION, ROW, is_lowest, is_rows_text
from tests.tools import agreed

COUNT = r"(0|[1-9][0-9]{0,12})"
FORMS = [rf"view {FRACTION} {COUNT} (?P<rows>.+)", rf"drop {COUNT}", rf"row {COUNT} {ROW}", rf"cut {COUNT} {COUNT}", rf"share {COUNT} {FRACTION}", rf"told {COUNT} {COUNT}",
         "undo", "redo", "holds", "excess", "most", rf"kernel {COUNT}", r"dims (?P<rows>.+)", "spare", "sight", "deeds"]


def is_told_request(line):
    """Whether a line is a request, by the document's table."""
    for form in FORMS:
        found = re.fullmatch(form, line)
        if found and "\n" not in line and is_lowest(line):
            return "rows" not in found.groupdict() or is_rows_text(found["rows"])
    return False


def told_reply(board, size, line):
    """The reply to a request, by the package's own functions."""
    word, _, rest = line.partition(" ")
    _, views = board.sight()
    try:
        if word == "view":
            share, told, text = rest.split(" ", 2)
            rows, share, told = rows_in(text), fraction_in(share), int(told)
            if not 0 <= value(share) <= 1 or told == 0 or any(len(row) != size for row in rows) or len(views) == 4 or len(rows) > 3:
                return "no Unfit"
            board.view(rows, share, told)
        elif word == "row":
            number, text = rest.split(" ", 1)
            (row,), number = rows_in(text), int(number)
            if len(row) != size or number < len(views) and len(views[number]) == 3:
                return "no Unfit"
            board.row(number, row)
        elif word == "share":
            number, text = rest.split(" ")
            if not 0 <= value(fraction_in(text)) <= 1:
                return "no Unfit"
            board.share(int(number), fraction_in(text))
        elif word == "told":
            number, told = map(int, rest.split(" "))
            if told == 0:
                return "no Unfit"
            board.told(number, told)
        elif word == "drop":
            board.drop(int(rest))
        elif word == "cut":
            board.cut(*map(int, rest.split(" ")))
        elif word in ("undo", "redo"):
            board.undo() if word == "undo" else board.redo()
        elif word == "holds":
            return "yes" if holds(board.sight(), board.shares()) else "no"
        elif word == "excess":
            return fraction_text(greatest_excess(board.sight(), board.shares())) + " of " + rows_text(least_space(board.sight(), board.shares()))
        elif word == "most":
            return str(most_points(board.sight(), board.sizes()))
        elif word == "kernel":
            return rows_text(kernel(board.sight(), int(rest)))
        elif word == "dims":
            if not is_space(rows_in(rest), size):
                return "no Unfit"
            dim, row = dims(board.sight(), rows_in(rest))
            return " ".join(map(str, (dim,) + row))
        elif word == "spare":
            return " ".join(map(str, board.spare())) or "none"
        elif word == "sight":
            return "; ".join(f"{number}: {fraction_text(share)} {told} {rows_text(view)}" for number, (view, share, told) in enumerate(
                zip(views, board.shares(), board.sizes()))) or "none"
        else:
            return str(len(board))
    except (NoView, NoNumber, NothingDone, Unfit) as error:
        return "no " + type(error).__name__
    return "done"


def some_text(some, size):
    """Rows of numbers as a text, now and then of another length, or none."""
    if some.random() < 0.1:
        return "none"
    width = size if some.random() < 0.93 else some.randint(1, 4)
    return ", ".join(" ".join(str(some.choice((0, 0, 1, 1, -1, 2, 99))) for _ in range(width)) for _ in range(some.choice((1, 1, 1, 2, 3, 4))))


def some_line(some, size):
    """A request, often one that can be done."""
    word = some.choice(("view", "view", "view", "row", "row", "share", "share", "told", "cut", "drop", "undo", "redo", "holds", "excess", "most", "kernel", "dims",
                        "spare", "sight", "deeds"))
    number = some.choice((0, 0, 1, 1, 2, 3, 4, 10 ** 13 - 1))
    share = fraction_text(some.choice(FRACTIONS + [(1, 1)] * 20 + [(3, 2), (-1, 2), (2, 1)]))
    if word == "view":
        return f"view {share} {some.choice((1, 4, 9, 10 ** 12, 0))} {some_text(some, size)}"
    if word == "row":
        return f"row {number} " + " ".join(str(some.randint(-1, 1)) for _ in range(some.choice((size, size, size, size, 1, 2))))
    if word == "dims":
        return "dims " + some.choice((some_text(some, size), "none", ", ".join(" ".join(str(int(k == row)) for k in range(size)) for row in range(size))))
    return {"share": f"share {number} {share}", "told": f"told {number} {some.choice((1, 5, 0, 10 ** 12))}", "cut": f"cut {number} {some.choice((0, 0, 1, 2))}",
            "drop": f"drop {number}", "kernel": f"kernel {number}"}.get(word, word)


class Requests(unittest.TestCase):
    def test_requests(self):
        for line in ("view 1/2 9 1 0", "view 1 4 none", "view -3/2 0 1 2, 3 4", "view 0 1 0", "drop 0", "drop 9999999999999", "row 0 1", "row 3 -1 0 99", "cut 0 0", "cut 2 10",
                     "share 0 1/2", "share 0 -7/3", "told 0 0", "told 1 1000000000000", "undo", "redo", "holds", "excess", "most", "kernel 0", "dims none", "dims 1 0, 0 1",
                     "dims 2 4", "spare", "sight", "deeds"):
            self.assertIs(agreed(self, is_request, line), True, line)
            self.assertTrue(is_told_request(line), line)
            self.assertIs(is_request(line + "\n"), False)
            self.assertIs(is_request("\n" + line), False)
            self.assertIs(is_request(line + " "), False)
            self.assertIs(is_request(" " + line), False)
            self.assertIs(is_request(line.replace(" ", "  ", 1) + "" if " " in line else line + " 1"), False, line)
            self.assertIs(is_request(line.title()), False)
        for line in ("", " ", "\n", "held", "view", "view 1/2", "view 1/2 9", "view 1/2 9 ", "view 2/4 9 1", "view 1/2 09 1", "view 1/2 -1 1", "view 1/2 9 1, 2 3", "view 9 1/2 1 0",
                     "drop", "drop ", "drop -1", "drop 00", "drop 1 2", "drop 10000000000000", "drop +1", "drop 1.0", "row 0", "row 0 none", "row 0 1, 2", "row 0 1/2", "row 1 01",
                     "cut 0", "cut 0 -1", "cut 0 0 0", "cut 0 10000000000000", "share 0", "share 1/2 0 1", "share 0 1/1", "share 0 -", "told 0 07", "told 0", "told 0 1/2",
                     "told 10000000000000 1", "undo 1", "holds 0", "most 1", "kernel", "kernel x", "kernel 0 0", "dims", "dims ", "dims 1, 2 3", "dims 1  0", "sight 0", "deeds.", "-", "none"):
            self.assertIs(agreed(self, is_request, line), False, line)
            self.assertFalse(is_told_request(line), line)

    def test_changed_at_one_place(self):
        some = Random(441)
        taken = 0
        for _ in range(2500):
            line = some_line(some, some.randint(1, 3))
            self.assertIs(is_request(line), True, line)
            at = some.randint(0, len(line))
            other = line[:at] + some.choice(("", " ", "0", "1", "-", "/", ",", ", ", "x", "\n", "12345678901234")) + line[at + some.randint(0, 2):]
            self.assertIs(is_request(other), is_told_request(other), other)
            taken += is_request(other)
        self.assertTrue(100 < taken < 2200, taken)


class Replies(unittest.TestCase):
    def test_drawn(self):
        counts = {}
        for seed in range(70):
            some = Random(seed)
            size = some.choice((1, 2, 2, 3))
            board = Board(size)
            lines = [some_line(some, size) for _ in range(some.randint(1, 60))]
            if sum(line.split(" ")[0] in ("view", "row", "cut", "share", "told", "drop") for line in lines) > 40:
                lines = lines[:40]
            expected = [told_reply(board, size, line) for line in lines]
            text = "\n".join(lines)
            told = agreed(self, replies, size, text) if seed % 5 == 0 else replies(size, text)
            self.assertEqual(told, expected, text)
            self.assertTrue(all(type(reply) is str for reply in told))
            last = last_board(size, text)
            self.assertTrue(last == board)
            self.assertEqual((last.sight(), last.shares(), last.sizes(), last.deeds()), (board.sight(), board.shares(), board.sizes(), board.deeds()))
            # What was undone can be done again on the last Board, too.
            self.assertEqual(last.twin().deeds(), board.deeds())
            for line, reply in zip(lines, told):
                key = line.split(" ")[0], reply if reply.startswith("no ") or reply in ("yes", "no", "done", "none") else "told"
                counts[key] = counts.get(key, 0) + 1
        for key in [("view", "done"), ("view", "no Unfit"), ("row", "done"), ("row", "no Unfit"), ("row", "no NoView"), ("share", "done"), ("share", "no Unfit"),
                    ("share", "no NoView"), ("told", "done"), ("told", "no Unfit"), ("told", "no NoView"), ("cut", "done"), ("cut", "no NoNumber"), ("cut", "no NoView"),
                    ("drop", "done"), ("drop", "no NoView"), ("undo", "done"), ("undo", "no NothingDone"), ("redo", "done"), ("redo", "no NothingDone"),
                    ("holds", "yes"), ("holds", "no"), ("excess", "told"), ("most", "told"), ("most", "no Unfit"), ("kernel", "told"), ("kernel", "none"),
                    ("kernel", "no NoView"), ("dims", "told"), ("dims", "no Unfit"), ("spare", "told"), ("spare", "none"), ("sight", "told"), ("sight", "none"),
                    ("deeds", "told")]:
            self.assertGreater(counts.get(key, 0), 0, key)

    def test_refused_ahead_of_all_else(self):
        # Wrong in itself, and about a VIEW that is not there: Unfit.
        for size, line in ((2, "row 7 1"), (2, "share 7 3/2"), (2, "share 7 -1/2"), (2, "told 7 0"), (2, "view 3/2 0 1"), (2, "dims 2 4"), (2, "dims 1"), (2, "dims 0 1, 1 0"),
                           (2, "view 1 0 1 0"), (2, "view 1 1 1 0, 0 1, 1 1, 2 1"), (3, "dims 1 0"), (1, "view 1 1 1 1"), (1, "dims -1")):
            self.assertEqual(agreed(self, replies, size, line), ["no Unfit"], line)
        self.assertEqual(replies(2, "row 7 1 1\nshare 7 1\ntold 7 1\ndrop 7\ncut 7 0\nkernel 7"), ["no NoView"] * 6)
        # A fifth VIEW, a fourth ROW; nothing is changed by them.
        four = "\n".join(["view 1 5 1 0, 0 1, 1 1"] * 4)
        text = four + "\nview 1 5 none\nrow 3 1 1\nrow 4 1 1\nrow 4 1\ndeeds\ncut 3 1\nrow 3 1 2\ndrop 0\nview 1 5 none\nsight"
        self.assertEqual(agreed(self, replies, 2, text), ["done"] * 4 + [
            "no Unfit", "no Unfit", "no NoView", "no Unfit", "4", "done", "done", "done", "done",
            "0: 1 5 1 0, 0 1, 1 1; 1: 1 5 1 0, 0 1, 1 1; 2: 1 5 1 0, 1 1, 1 2; 3: 1 5 none"])
        self.assertEqual(len(last_board(2, text)), 8)

    def test_what_raises_changes_nothing(self):
        text = "view 1/2 5 1 0\nundo\ndrop 0\ncut 0 0\nshare 0 1\nmost\nkernel 0\nredo\ncut 0 1\nview 2 5 1 0\nundo\nredo\nredo"
        self.assertEqual(replies(2, text), ["done", "done", "no NoView", "no NoView", "no NoView", "no Unfit", "no NoView", "done", "no NoNumber", "no Unfit", "done", "done",
                                            "no NothingDone"])
        self.assertEqual(last_board(2, text).deeds(), [("view", ((1, 0),), (1, 2), 5)])

    def test_looks(self):
        self.assertEqual(replies(2, "sight\nspare\ndeeds\nexcess\nholds\ndims none\ndims 1 0, 0 1\nmost"), ["none", "none", "0", "2 of 1 0, 0 1", "no", "0", "2", "no Unfit"])
        self.assertEqual(replies(1, "view 1 7 3\nview 1/2 1 none\nexcess\nspare\nkernel 0\nkernel 1\ndims 1\nmost\nsight"),
                         ["done", "done", "0 of none", "1", "none", "1", "1 1 0", "7", "0: 1 7 3; 1: 1/2 1 none"])
        self.assertEqual(replies(3, "view 1 1000000000000 1 0 0\nview 1 1000000000000 0 1 0\nview 1 1000000000000 0 0 1\nmost"), ["done"] * 3 + [str(10 ** 36)])

    def test_bad_line(self):
        for text, number in (("holds\nheld", 1), ("held\nholds", 0), ("\n", 0), ("holds\n", 1), ("holds\n\nholds", 1), (" holds", 0), ("view 1 5 1 0\nundo\nundo x\nloud", 2),
                             ("drop 0\nrow 0 none", 1), ("told 0 07", 0), ("drop 12345678901234", 0), ("drop 1234567890123\ndrop 01", 1), ("view 3/2 0 1 2 3\n-", 1)):
            for function in (replies, last_board):
                with self.assertRaises(BadLine, msg=text) as caught:
                    function(2, text)
                self.assertEqual(caught.exception.number, number, text)
            with self.assertRaises(BadLine):
                agreed(self, replies, 2, text)

    def test_empty(self):
        for size in (1, 2, 3):
            self.assertEqual(agreed(self, replies, size, ""), [])
            self.assertTrue(last_board(size=size, text="") == Board(size))
        self.assertIsNot(replies(1, ""), replies(1, ""))
        self.assertIsNot(last_board(1, ""), last_board(1, ""))


if __name__ == "__main__":
    unittest.main()
