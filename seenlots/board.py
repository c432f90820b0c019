"""A Board: VIEWS with a share and a told size each, changed deed by deed."""

from seenlots.bounds import tightest, whole_bound
from seenlots.errors import NoNumber, NothingDone, NoView
from seenlots.holds import greatest_excess, holds, least_space
from seenlots.values import frozen


def without(several, place):
    """The things without the one at this place."""
    return several[:place] + several[place + 1:]


def put_at(several, place, thing):
    """The things with this one at this place."""
    return several[:place] + (thing,) + several[place + 1:]


def after(state, deed):
    """The VIEWS, shares and told sizes behind a DEED, told those ahead of it."""
    views, shares, sizes = state
    word, number = deed[:2]
    if word == "view":
        return views + deed[1:2], shares + deed[2:3], sizes + deed[3:]
    if not 0 <= number < len(views):
        raise NoView(number)
    if word == "drop":
        return without(views, number), without(shares, number), without(sizes, number)
    if word == "row":
        return put_at(views, number, views[number] + (deed[2],)), shares, sizes
    if word == "share":
        return views, put_at(shares, number, deed[2]), sizes
    if word == "told":
        return views, shares, put_at(sizes, number, deed[2])
    if not 0 <= deed[2] < len(views[number]):
        raise NoNumber(deed[2])
    return put_at(views, number, without(views[number], deed[2])), shares, sizes


class Board:
    """VIEWS of one size, a share and a told size for each, and the record of the DEEDS that made them."""

    def __init__(self, size):
        self._size = size
        self._done = []
        self._undone = []
        # Behind each number of DEEDS the VIEWS, their shares and their told sizes.
        self._states = [((), (), ())]

    def sight(self):
        """The SIGHT of the VIEWS."""
        return self._size, self._states[-1][0]

    def shares(self):
        """The SHARES of the VIEWS."""
        return self._states[-1][1]

    def sizes(self):
        """The told SIZES."""
        return self._states[-1][2]

    def deeds(self):
        """The list of the record."""
        return list(self._done)

    def __len__(self):
        return len(self._done)

    def __eq__(self, other):
        return isinstance(other, Board) and self._size == other._size and self._done == other._done

    def do(self, deed):
        """A DEED is done; what was undone cannot be done again."""
        told = frozen(deed)
        self._states.append(after(self._states[-1], told))
        self._done.append(told)
        self._undone.clear()

    def view(self, view, share, told):
        """A VIEW more, behind the others."""
        self.do(("view", view, share, told))

    def drop(self, number):
        """This VIEW is gone."""
        self.do(("drop", number))

    def row(self, number, row):
        """This VIEW has a ROW more, the last."""
        self.do(("row", number, row))

    def cut(self, number, place):
        """The ROW of this VIEW at this place is gone."""
        self.do(("cut", number, place))

    def share(self, number, share):
        """This VIEW has this share."""
        self.do(("share", number, share))

    def told(self, number, told):
        """This VIEW has this told size."""
        self.do(("told", number, told))

    def undo(self):
        """The last DEED is taken off the record and returned."""
        if not self._done:
            raise NothingDone()
        self._states.pop()
        self._undone.append(self._done.pop())
        return self._undone[-1]

    def redo(self):
        """The DEED undone last is put back and returned."""
        if not self._undone:
            raise NothingDone()
        self._done.append(self._undone.pop())
        self._states.append(after(self._states[-1], self._done[-1]))
        return self._done[-1]

    def behind(self, m):
        """The SIGHT, the SHARES and the SIZES behind the first m DEEDS."""
        if not 0 <= m <= len(self._done):
            raise NoNumber(m)
        views, shares, sizes = self._states[m]
        return (self._size, views), shares, sizes

    def holds(self):
        """Whether the shares hold."""
        return holds(self.sight(), self.shares())

    def excess(self):
        """The greatest excess, and the least SPACE that has it."""
        return greatest_excess(self.sight(), self.shares()), least_space(self.sight(), self.shares())

    def bound(self):
        """The least SHARES for the SIZES, and the whole part of their bound."""
        least = tightest(self.sight(), self.sizes())
        return least, whole_bound(self.sizes(), least)

    def turns(self):
        """The list of all m such that the m-th DEED made that the shares hold, or that they do not."""
        held = [holds((self._size, views), shares) for views, shares, _ in self._states]
        return [m for m in range(1, len(held)) if held[m] != held[m - 1]]

    def spare(self):
        """The set of the VIEWS without any one of which alone the others' shares hold."""
        views, shares, _ = self._states[-1]
        return tuple([number for number in range(len(views))
                      if holds((self._size, without(views, number)), without(shares, number))])

    def is_plan(self, deeds):
        """Whether these DEEDS can be done in this order from here."""
        state = self._states[-1]
        for deed in frozen(deeds):
            try:
                state = after(state, deed)
            except (NoView, NoNumber):
                return False
        return True

    def twin(self):
        """A Board equal to this one, with the same DEEDS to be undone or done again."""
        other = Board(self._size)
        other._done = list(self._done)
        other._undone = list(self._undone)
        other._states = list(self._states)
        return other
