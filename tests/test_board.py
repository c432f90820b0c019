"""A Board [24]."""

import inspect
import unittest
from random import Random

from seenlots.board import Board
from seenlots.bounds import most_points, tightest
from seenlots.errors import NoNumber, NothingDone, NoView, Unfit
from seenlots.holds import greatest_excess, holds, least_space
from tests.shares import FRACTIONS, HALF, NONE, ONE, is_blind, told_holds, value
from tests.tools import ODD, is_plain, lists, outcome, told

DEEDS = ("view", "drop", "row", "cut", "share", "told")


class Plain:
    """A Board by the document's words: all is done anew for each question."""

    def __init__(self, size):
        self.size, self.record, self.undone = size, [], []

    def behind(self, m):
        views, shares, sizes = [], [], []
        for deed in self.record[:m]:
            word, number = deed[0], deed[1]
            if word == "view":
                views.append(list(deed[1]))
                shares.append(deed[2])
                sizes.append(deed[3])
            elif word == "drop":
                for several in (views, shares, sizes):
                    del several[number]
            elif word == "row":
                views[number].append(deed[2])
            elif word == "cut":
                del views[number][deed[2]]
            elif word == "share":
                shares[number] = deed[2]
            else:
                sizes[number] = deed[2]
        return (self.size, tuple(map(tuple, views))), tuple(shares), tuple(sizes)

    def now(self):
        return self.behind(len(self.record))

    def error_of(self, deed):
        """What a DEED raises: the error's name with its number; None if it can be done."""
        (_, views), _, _ = self.now()
        if deed[0] == "view":
            return None
        if not 0 <= deed[1] < len(views):
            return "NoView" + repr({"number": deed[1]})
        if deed[0] == "cut" and not 0 <= deed[2] < len(views[deed[1]]):
            return "NoNumber" + repr({"number": deed[2]})
        return None

    def do(self, deed):
        self.record.append(deed)
        self.undone.clear()

    def can_do(self, deeds):
        other = Plain(self.size)
        other.record = list(self.record)
        for deed in deeds:
            if other.error_of(deed):
                return False
            other.do(deed)
        return True


def some_deed(some, plain):
    """A DEED within the bounds, now and then one that cannot be done."""
    (size, views), shares, _ = plain.now()
    number = some.randrange(len(views)) if views and some.random() < 0.85 else some.choice((-1, len(views), 10 ** 20))
    row = tuple(some.choice((0, 0, 1, 1, -1, 2, 99)) for _ in range(size))
    word = some.choice(DEEDS[1:] + ("share", "row"))
    if not views or len(views) < 4 and some.random() < 0.35:
        return "view", tuple(tuple(some.randint(-1, 1) for _ in range(size)) for _ in range(some.choice((0, 1, 1, 2)))), some.choice(FRACTIONS), some.randint(1, 50)
    if word == "row" and 0 <= number < len(views) and len(views[number]) > 2:
        word = "cut"
    if word == "drop" and some.random() < 0.5:
        word = "told"
    if word == "cut":
        return word, number, some.choice((0, 0, 0, 1, 2, -1, 10 ** 20))
    return {"drop": (word, number), "row": (word, number, row), "share": (word, number, some.choice(FRACTIONS + [ONE] * 9)),
            "told": (word, number, some.choice((1, 7, 10 ** 12)))}[word]


def snapshot(board):
    """All that a Board tells of itself."""
    return board.sight(), board.shares(), board.sizes(), board.deeds(), len(board)


def call(board, deed, way):
    """Does a DEED by its method, by do, with lists or by names: what it returns or raises."""
    if way == 0:
        return outcome(getattr(board, deed[0]), deed[1:])
    if way == 1:
        return outcome(board.do, (deed,))
    if way == 2:
        return outcome(board.do, (lists(deed),), ["deed"])
    method = getattr(board, deed[0])
    return outcome(method, lists(deed[1:]), list(inspect.signature(method).parameters))


class Drawn(unittest.TestCase):
    def check_equal(self, board, plain):
        sight, shares, sizes = plain.now()
        self.assertEqual(snapshot(board), (sight, shares, sizes, plain.record, len(plain.record)))
        self.assertTrue(all(is_plain(part) for part in board.deeds()) and is_plain(board.sight()) and is_plain(board.shares()) and is_plain(board.sizes()))
        anew = Board(plain.size)
        for deed in plain.record:
            anew.do(deed)
        self.assertTrue(board == anew and anew == board and not board != anew)
        self.assertEqual(snapshot(anew), snapshot(board))

    def check_told(self, board, plain):
        sight, shares, sizes = plain.now()
        self.assertIs(board.holds(), told_holds(sight, shares))
        self.assertEqual(board.excess(), (greatest_excess(sight, shares), least_space(sight, shares)))
        if is_blind(sight):
            with self.assertRaises(Unfit):
                board.bound()
        else:
            self.assertEqual(board.bound(), (tightest(sight, sizes), most_points(sight, sizes)))
        held = [holds(*plain.behind(m)[:2]) for m in range(len(plain.record) + 1)]
        turns = board.turns()
        self.assertEqual(turns, [m for m in range(1, len(held)) if held[m] is not held[m - 1]])
        self.assertIsNot(board.turns(), turns)
        size, views = sight
        spare = [number for number in range(len(views)) if told_holds(
            (size, views[:number] + views[number + 1:]), shares[:number] + shares[number + 1:])]
        self.assertEqual(board.spare(), tuple(spare))

    def test_many_deeds(self):
        for seed in range(36):
            some = Random(seed)
            size = some.choice((1, 2, 2, 3))
            board, plain = Board(size), Plain(size)
            raised = 0
            for step in range(60):
                draw = some.random()
                if draw < 0.6 and len(plain.record) < 40:
                    deed = some_deed(some, plain)
                    before = snapshot(board), list(plain.undone)
                    result = call(board, deed, step % 4)
                    error = plain.error_of(deed)
                    if error:
                        raised += 1
                        self.assertEqual(told(result), error)
                        self.assertEqual(snapshot(board), before[0])
                    else:
                        self.assertEqual(result, ("value", None))
                        plain.do(deed)
                elif draw < 0.85:
                    result = outcome(board.undo, ())
                    if plain.record:
                        plain.undone.append(plain.record.pop())
                        self.assertEqual(result, ("value", plain.undone[-1]))
                    else:
                        self.assertEqual(told(result), "NothingDone{}")
                else:
                    result = outcome(board.redo, ())
                    if plain.undone:
                        plain.record.append(plain.undone.pop())
                        self.assertEqual(result, ("value", plain.record[-1]))
                    else:
                        self.assertEqual(told(result), "NothingDone{}")
                if step % 6 == 0:
                    self.check_equal(board, plain)
                    self.check_more(some, board, plain)
            self.check_equal(board, plain)
            self.check_told(board, plain)

    def check_more(self, some, board, plain):
        """behind, is_plan, twin: nothing of it changes the Board."""
        for m in {0, len(plain.record), some.randint(0, len(plain.record))}:
            self.assertEqual(board.behind(m), plain.behind(m))
            self.assertTrue(is_plain(board.behind(m)))
        for m in (-1, len(plain.record) + 1, 10 ** 20, -10 ** 20):
            with self.assertRaises(NoNumber) as caught:
                board.behind(m)
            self.assertEqual(caught.exception.number, m)
        deeds = tuple(some_deed(some, plain) for _ in range(some.randint(0, 3)))
        self.assertIs(board.is_plan(deeds), plain.can_do(deeds))
        self.assertIs(board.is_plan(deeds=lists(deeds)), plain.can_do(deeds))
        other = board.twin()
        self.assertIsNot(other, board)
        self.assertTrue(other == board)
        for _ in plain.undone:
            other.redo()
        self.assertEqual(other.deeds(), plain.record + plain.undone[::-1])
        with self.assertRaises(NothingDone):
            other.redo()
        for deed in reversed(plain.record + plain.undone[::-1]):
            self.assertEqual(other.undo(), deed)
        with self.assertRaises(NothingDone):
            other.undo()
        self.check_equal(board, plain)


class Edges(unittest.TestCase):
    def test_without_views(self):
        for size in (1, 2, 3):
            board = Board(size=size)
            self.assertEqual(snapshot(board), ((size, ()), (), (), [], 0))
            self.assertEqual((board.holds(), board.excess()[0], board.turns(), board.spare(), board.behind(0)), (False, (size, 1), [], (), ((size, ()), (), ())))
            self.assertIs(board.is_plan(()), True)
            for method in (board.undo, board.redo):
                with self.assertRaises(NothingDone):
                    method()
            with self.assertRaises(Unfit):
                board.bound()
            for deed in (("drop", 0), ("row", 0, (1,) * size), ("cut", 0, 0), ("share", 0, ONE), ("told", 0, 5)):
                with self.assertRaises(NoView):
                    board.do(deed)
                self.assertIs(board.is_plan((deed,)), False)
            self.assertEqual(snapshot(board), ((size, ()), (), (), [], 0))

    def test_no_view_then_no_number(self):
        board = Board(2)
        board.view(((1, 0), (0, 1)), HALF, 9)
        for number in (-1, 1, 10 ** 30):
            for deed in (("drop", number), ("row", number, (1, 1)), ("cut", number, 0), ("cut", number, 77), ("share", number, ONE), ("told", number, 3)):
                with self.assertRaises(NoView) as caught:
                    board.do(deed)
                self.assertEqual(caught.exception.number, number)
        for place in (-1, 2, 10 ** 30):
            with self.assertRaises(NoNumber) as caught:
                board.cut(number=0, place=place)
            self.assertEqual(caught.exception.number, place)
        self.assertEqual(board.deeds(), [("view", ((1, 0), (0, 1)), HALF, 9)])

    def test_each_deed(self):
        board = Board(2)
        self.assertIsNone(board.view(view=[[1, 0]], share=[1, 2], told=9))
        self.assertIsNone(board.view((), ONE, 1))
        self.assertIsNone(board.row(1, [0, 1]))
        self.assertIsNone(board.row(number=1, row=(2, 2)))
        self.assertIsNone(board.cut(1, 0))
        self.assertIsNone(board.share(number=0, share=[1, 1]))
        self.assertIsNone(board.told(number=1, told=7))
        self.assertEqual((board.sight(), board.shares(), board.sizes()), ((2, (((1, 0),), ((2, 2),))), (ONE, ONE), (9, 7)))
        self.assertIsNone(board.drop(0))
        self.assertEqual((board.sight(), board.shares(), board.sizes()), ((2, (((2, 2),),)), (ONE,), (7,)))
        self.assertEqual(board.deeds(), [("view", ((1, 0),), HALF, 9), ("view", (), ONE, 1), ("row", 1, (0, 1)), ("row", 1, (2, 2)), ("cut", 1, 0),
                                         ("share", 0, ONE), ("told", 1, 7), ("drop", 0)])
        self.assertEqual(len(board), 8)

    def test_undone_and_done_again(self):
        board = Board(1)
        for number in range(5):
            board.view(((number,),), HALF, number + 1)
            if number > 2:
                board.drop(0)
        self.assertEqual([board.undo() for _ in range(4)], [("drop", 0), ("view", ((4,),), HALF, 5), ("drop", 0), ("view", ((3,),), HALF, 4)])
        # What raises does not end that it can be done again; what is done does.
        with self.assertRaises(NoView):
            board.drop(9)
        with self.assertRaises(NoNumber):
            board.do(("cut", 0, 5))
        self.assertIs(board.is_plan((("drop", 0),)), True)
        self.assertEqual(board.redo(), ("view", ((3,),), HALF, 4))
        board.told(0, 3)
        with self.assertRaises(NothingDone):
            board.redo()
        self.assertEqual(board.undo(), ("told", 0, 3))
        self.assertEqual(board.redo(), ("told", 0, 3))
        with self.assertRaises(NothingDone):
            board.redo()

    def test_forty_deeds(self):
        board = Board(3)
        board.view(((1, 0, 0), (0, 1, 0)), HALF, 4)
        board.view(((0, 1, 0), (0, 0, 1)), HALF, 4)
        board.view(((1, 0, 0), (0, 0, 1)), HALF, 4)
        for count in range(37):
            board.share(count % 3, HALF if count % 2 else (5, 12))
        self.assertEqual((len(board), board.turns()), (40, [m for m in range(1, 41) if holds(*board.behind(m)[:2]) is not holds(*board.behind(m - 1)[:2])]))
        self.assertGreater(len(board.turns()), 1)
        twin = board.twin()
        self.assertEqual([twin.undo() for _ in range(40)], board.deeds()[::-1])
        self.assertEqual([twin.redo() for _ in range(40)], board.deeds())
        self.assertTrue(twin == board)

    def test_equal(self):
        board, other = Board(2), Board(2)
        self.assertTrue(board == other)
        board.view(((1, 0),), ONE, 5)
        self.assertTrue(board != other and not board == other)
        other.do(["view", [[1, 0]], [1, 1], 5])
        self.assertTrue(board == other)
        # The same VIEWS by other DEEDS are no equal Board; what is undone does not count.
        other.told(0, 5)
        self.assertFalse(board == other)
        other.undo()
        self.assertTrue(board == other)
        self.assertFalse(Board(1) == Board(2))
        self.assertTrue(Board(1) != Board(2))
        for thing in ODD + (board.sight(), board.deeds(), (2, board.deeds()), object()):
            self.assertFalse(board == thing)
            self.assertFalse(thing == board)
            self.assertTrue(board != thing)

    def test_no_iteration(self):
        board = Board(2)
        board.view(((1, 0),), ONE, 5)
        for look in (list, tuple, iter, sorted, lambda thing: [part for part in thing], lambda thing: 0 in thing):
            with self.assertRaises(TypeError):
                look(board)

    def test_copies(self):
        # What is handed in and what was returned can be changed without changing the Board.
        board = Board(2)
        view, share = [[1, 0]], [1, 2]
        board.view(view, share, 5)
        deed = ["row", 0, [0, 1]]
        board.do(deed)
        view[0][0], share[0] = 9, 7
        view.append([3, 3])
        deed[2][0] = 9
        deed[0] = "drop"
        expected = ((2, (((1, 0), (0, 1)),)), (HALF,), (5,), [("view", ((1, 0),), HALF, 5), ("row", 0, (0, 1))], 2)
        self.assertEqual(snapshot(board), expected)
        board.deeds().clear()
        board.turns().append(5)
        self.assertEqual(snapshot(board), expected)
        self.assertIsNot(board.deeds(), board.deeds())
        twin = board.twin()
        twin.undo()
        twin.undo()
        self.assertEqual(snapshot(board), expected)
        board.undo()
        self.assertEqual((len(twin), len(board)), (0, 1))

    def test_guarantees(self):
        some = Random(431)
        grown = 0
        for seed in range(40):
            plain = Plain(some.choice((1, 2, 3)))
            board = Board(plain.size)
            for _ in range(12):
                deed = some_deed(some, plain)
                if plain.error_of(deed):
                    continue
                _, shares, sizes = plain.now()
                before, bound = board.holds(), None if is_blind(board.sight()) else board.bound()[1]
                board.do(deed)
                plain.do(deed)
                grows = deed[0] in ("view", "row") or deed[0] == "share" and value(deed[2]) >= value(shares[deed[1]])
                if grows and before:
                    self.assertTrue(board.holds())
                    grown += 1
                if deed[0] in ("drop", "cut") or deed[0] == "share" and value(deed[2]) <= value(shares[deed[1]]):
                    self.assertTrue(before or not board.holds())
                if deed[0] == "told" and bound is not None:
                    more = board.bound()[1]
                    self.assertTrue(more <= bound if deed[2] <= sizes[deed[1]] else more >= bound)
        self.assertGreater(grown, 10)

    def test_shares_none(self):
        board = Board(1)
        board.view(((2,),), NONE, 5)
        self.assertEqual((board.holds(), board.excess(), board.bound(), board.spare()), (False, (ONE, ((1,),)), ((ONE,), 5), ()))
        board.view((), ONE, 1)
        board.view(((3,),), ONE, 4)
        self.assertEqual((board.holds(), board.spare(), board.bound()), (True, (0, 1), ((NONE, NONE, ONE), 4)))
        board.cut(2, 0)
        self.assertEqual((board.holds(), board.turns()), (False, [3, 4]))


if __name__ == "__main__":
    unittest.main()
