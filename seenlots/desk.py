"""A desk: requests, one in each line, done in their order on one Board, and the replies."""

from seenlots.board import Board
from seenlots.bounds import most_points
from seenlots.errors import BadLine, NoNumber, NothingDone, NoView, Unfit
from seenlots.spaces import is_space
from seenlots.texts import fraction_of, fraction_text, lines_of, number_of, row_of, row_text, rows_of, rows_text
from seenlots.views import dims, kernel

MOST_FIGURES = 13
MOST_VIEWS = 4
MOST_ROWS = 3

# Requests of one word alone.
BARE = ("undo", "redo", "holds", "excess", "most", "spare", "sight", "deeds")

# Requests that are DEEDS of a Board as they stand.
DEEDS = ("drop", "row", "cut", "share", "told")

# What stands behind the first word of the others: a number, a FRACTION, a ROW, ROWS; the last one up to the end.
PARTS = {
    "view": ("fraction", "number", "rows"), "drop": ("number",), "row": ("number", "row"), "cut": ("number", "number"),
    "share": ("number", "fraction"), "told": ("number", "number"), "kernel": ("number",), "dims": ("rows",),
}


def part_in(kind, text):
    """The number, FRACTION, ROW or ROWS with this text; None if there is none."""
    if kind == "fraction":
        return fraction_of(text)
    if kind == "row":
        return row_of(text)
    if kind == "rows":
        return rows_of(text)
    number = number_of(text)
    return None if number is None or number < 0 or len(text) > MOST_FIGURES else number


def request_in(line):
    """The word and the parts of a request, a tuple; None if the line is none."""
    word, blank, rest = line.partition(" ")
    if blank == "":
        return (word,) if word in BARE else None
    kinds = PARTS.get(word, ())
    found = [word]
    for kind in kinds[:-1]:
        text, _, rest = rest.partition(" ")
        found.append(part_in(kind, text))
    if kinds != ():
        found.append(part_in(kinds[-1], rest))
    return None if None in found or kinds == () else tuple(found)


def is_request(line):
    """Whether a line is a request."""
    return request_in(line) is not None


def requests_in(text):
    """The requests of all lines; raises BadLine for the first line that is none."""
    found = [request_in(line) for line in lines_of(text)]
    if None in found:
        raise BadLine(found.index(None))
    return found


def is_refused(board, request):
    """Whether what a request hands in is refused, whatever VIEWS there are to take it."""
    size, views = board.sight()
    word = request[0]
    if word == "view":
        _, share, told, rows = request
        if told == 0 or len(views) >= MOST_VIEWS or len(rows) > MOST_ROWS:
            return True
        return not is_share(share) or not all([len(row) == size for row in rows])
    if word == "row":
        _, number, row = request
        return len(row) != size or number < len(views) and len(views[number]) >= MOST_ROWS
    if word == "share":
        return not is_share(request[2])
    if word == "told":
        return request[2] == 0
    return word == "dims" and not is_space(request[1], size)


def is_share(fraction):
    """Whether a FRACTION is from 0 to 1."""
    top, bottom = fraction
    return 0 <= top <= bottom


def done(board, request):
    """Does what a request asks and tells the reply; raises what the deed or the look does."""
    word = request[0]
    if is_refused(board, request):
        raise Unfit()
    if word == "undo":
        board.undo()
    elif word == "redo":
        board.redo()
    elif word == "view":
        _, share, told, rows = request
        board.view(rows, share, told)
    elif word in DEEDS:
        board.do(request)
    else:
        return seen(board, request)
    return "done"


def seen(board, request):
    """The reply to a request that changes nothing."""
    word = request[0]
    if word == "holds":
        return "yes" if board.holds() else "no"
    if word == "excess":
        much, space = board.excess()
        return fraction_text(much) + " of " + rows_text(space)
    if word == "most":
        return str(most_points(board.sight(), board.sizes()))
    if word == "kernel":
        return rows_text(kernel(board.sight(), request[1]))
    if word == "dims":
        dim, row = dims(board.sight(), request[1])
        return row_text((dim,) + row)
    if word == "spare":
        return row_text(board.spare()) or "none"
    if word == "deeds":
        return str(len(board))
    return views_text(board)


def views_text(board):
    """The VIEWS of a Board, each with its number, share and told size."""
    _, views = board.sight()
    found = []
    for number, (view, share, told) in enumerate(zip(views, board.shares(), board.sizes())):
        found.append(f"{number}: {fraction_text(share)} {told} {rows_text(view)}")
    return "; ".join(found) if found else "none"


def reply(board, request):
    """The reply to a request; if it cannot be done the name of the error."""
    try:
        return done(board, request)
    except Unfit:
        return "no Unfit"
    except NoView:
        return "no NoView"
    except NoNumber:
        return "no NoNumber"
    except NothingDone:
        return "no NothingDone"


def replies(size, text):
    """The list of the replies, one for each line."""
    board = Board(size)
    return [reply(board, request) for request in requests_in(text)]


def last_board(size, text):
    """The Board behind all requests."""
    board = Board(size)
    for request in requests_in(text):
        reply(board, request)
    return board
