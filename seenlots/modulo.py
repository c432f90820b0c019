"""Numbers modulo a prime: reduced TABLES, PSPACES, and what kinds of them there are."""

from seenlots.rows import inverse, lead_of
from seenlots.values import dot, on_one_bottom, unit_rows


def reduced(prime, rows):
    """The reduced TABLE of all sums of ROWS modulo a prime."""
    steps = []
    for row in rows:
        left = [part % prime for part in row]
        for lead, step in steps:
            if left[lead] != 0:
                left = less_times(prime, left, left[lead], step)
        place = lead_of(left)
        if place < len(left):
            much = inverse(left[place], prime)
            new = [part * much % prime for part in left]
            steps = [(lead, less_times(prime, step, step[place], new)) for lead, step in steps]
            steps.append((place, new))
    return tuple([tuple(step) for _, step in sorted(steps)])


def less_times(prime, row, times, step):
    """A ROW less so many times a step, modulo a prime."""
    return [(part - times * other) % prime for part, other in zip(row, step)]


def zeros_at(prime, table, size):
    """The PSPACE of the tuples of which each ROW of a reduced TABLE shows 0."""
    leads = [lead_of(row) for row in table]
    found = []
    for place, unit in enumerate(unit_rows(size)):
        if place not in leads:
            point = list(unit)
            for row, lead in zip(table, leads):
                point[lead] = -row[place]
            found.append(point)
    return reduced(prime, found)


def dims_at(prime, views, space):
    """The dims of the images of a PSPACE, modulo a prime."""
    return tuple([len(reduced(prime, [[dot(row, point) for row in view] for point in space])) for view in views])


def tables_of(prime, size, dim):
    """All reduced TABLES of so many ROWS of this size."""
    if dim == 0 or dim > size:
        return [()] if dim == 0 else []
    found = [put_behind(table) for table in tables_of(prime, size - 1, dim)]
    for table in tables_of(prime, size - 1, dim - 1):
        # The first ROW has its lead at the first place, and 0 at all other leads.
        leads = [lead_of(row) for row in table]
        firsts = [(1,)]
        for place in range(size - 1):
            several = (0,) if place in leads else tuple(range(prime))
            firsts = [first + (part,) for first in firsts for part in several]
        found.extend([(first,) + put_behind(table) for first in firsts])
    return found


def put_behind(table):
    """The TABLE with a 0 ahead of each ROW."""
    return tuple([(0,) + row for row in table])


def all_sums(prime, rows, size):
    """All sums, modulo a prime, of ROWS of which no one comes of the others, each any number of times."""
    sums = [(0,) * size]
    for row in rows:
        several = [[times * part for part in row] for times in range(prime)]
        sums = [point for step in several for point in moved_by(prime, step, sums)]
    return sums


def moved_by(prime, step, points):
    """Each of the tuples with a step added, modulo a prime."""
    return [tuple([(part + more) % prime for part, more in zip(step, point)]) for point in points]


def line_points(prime, space, size):
    """For each line in a PSPACE its one tuple whose lead is 1: a ROW and any sum of those behind it."""
    found = []
    for place, row in enumerate(space):
        found.extend(moved_by(prime, row, all_sums(prime, space[place + 1:], size)))
    return found


def free_line(prime, table, size):
    """A tuple whose lead is 1 that is not in the table; None if there is none."""
    units = unit_rows(size)
    for place in range(size):
        ahead = units[size - 1 - place]
        for point in moved_by(prime, ahead, all_sums(prime, units[size - place:], size)):
            if point not in table:
                return point
    return None


def line_marks(prime, spaces, size):
    """Pairs (mask, point): for each way to lie in some of PSPACES, with a bit for each, a line that does so."""
    table, common = {}, 0
    for number, space in enumerate(spaces):
        if len(space) == size:
            common = common | 1 << number
        else:
            for point in line_points(prime, space, size):
                table[point] = table.get(point, 0) | 1 << number
    found = {}
    free = free_line(prime, table, size)
    if free is not None:
        found[common] = free
    for point, mask in table.items():
        found.setdefault(mask | common, point)
    return list(found.items())


def told_at(prime, sight):
    """Triples (kind, space, is turned), lesser dims first: each kind of PSPACES there is, and one of this kind.

    If it is turned, it is that of the tuples of which the ROWS of space show 0.
    """
    size, views = sight
    spaces = [reduced(prime, view) for view in views]
    ranks = [len(space) for space in spaces]
    found = [((0, (0,) * len(views)), (), False)]
    if size > 1:
        # The image of a line is a line but for the VIEWS that show 0s of it.
        kernels = [zeros_at(prime, space, size) for space in spaces]
        for mask, point in line_marks(prime, kernels, size):
            found.append(((1, less_marked([1] * len(views), mask)), (point,), False))
    for dim in range(2, size - 1):
        table = {(dim, dims_at(prime, views, space)): space for space in tables_of(prime, size, dim)}
        found.extend([(kind, space, False) for kind, space in table.items()])
    if size > 2:
        # All tuples of which one ROW shows 0: an image is short of the whole one's dim, by 1, exactly if the ROW
        # comes of those of the VIEW.
        for mask, row in line_marks(prime, spaces, size):
            found.append(((size - 1, less_marked(ranks, mask)), (row,), True))
    found.append(((size, tuple(ranks)), (), True))
    return found


def less_marked(numbers, mask):
    """The numbers, each 1 less if the mask has its bit."""
    return tuple([number - (mask >> place & 1) for place, number in enumerate(numbers)])


def excesses_at(prime, sight, shares):
    """What told_at tells; for each kind its excess times a bottom; and this."""
    tops, bottom = on_one_bottom(shares)
    found = told_at(prime, sight)
    return found, [kind[0] * bottom - dot(kind[1], tops) for kind, _, _ in found], bottom
