"""Kinds of spaces: the DIMENSIONS that are there, of SIGHTS of size to 3."""

from seenlots.errors import NoPaper, Unfit
from seenlots.rows import filled, rank_of
from seenlots.spaces import is_in, is_space, meet, whole_space, within, zeros_of
from seenlots.values import combined, frozen, is_number, is_row
from seenlots.views import dims, view_at


def kernels_of(sight):
    """The kernels of all VIEWS."""
    size, views = sight
    return [zeros_of(view, size) for view in views]


def sets_of(many):
    """All sets of numbers from 0 to below many."""
    found = [()]
    for number in range(many):
        found = found + [chosen + (number,) for chosen in found]
    return sorted(found)


def only_point(size, spaces, chosen):
    """A POINT, not of 0s alone, that is in just the chosen ones of these SPACES; None if there is none."""
    shared = whole_space(size)
    for number in chosen:
        shared = meet(shared, spaces[number])
    others = [space for number, space in enumerate(spaces) if number not in chosen]
    if shared == () or any([within(shared, space) for space in others]):
        return None
    return point_outside(size, shared, others)


def point_outside(size, shared, others):
    """A POINT of the SPACE shared, not of 0s alone, in none of the others, in none of which this SPACE lies."""
    # The sums of ROW k times number to the power k: each other SPACE has fewer of them than shared has ROWS.
    number = 0
    while True:
        times = [1]
        for _ in shared[1:]:
            times.append(times[-1] * number)
        point = combined(times, shared, size)
        if not any([is_in(space, point) for space in others]):
            return point
        number = number + 1


def only_points(size, spaces):
    """For each set of these SPACES that just these have in common a POINT, not of 0s alone: the set and one."""
    found = []
    for chosen in sets_of(len(spaces)):
        point = only_point(size, spaces, chosen)
        if point is not None:
            found.append((chosen, point))
    return found


def kind_spaces(sight):
    """One SPACE for each kind that is there."""
    size, views = sight
    found = [()]
    if size > 1:
        # The image of a line is a line but for the VIEWS in whose kernels it lies.
        found = found + [filled([point]) for _, point in only_points(size, kernels_of(sight))]
    if size > 2:
        # All POINTS of which one ROW shows 0: an image is short of the whole one's dim, by 1, exactly if
        # the ROW is a sum of multiples of those of the VIEW.
        found = found + [zeros_of([row], size) for _, row in only_points(size, [filled(view) for view in views])]
    return found + [whole_space(size)]


def all_kinds(sight):
    """The set of all kinds that are there."""
    return tuple(sorted([dims(sight, space) for space in kind_spaces(sight)]))


def kinds_of_dim(sight, dim):
    """The set of the kinds of this dim that are there."""
    return tuple([kind for kind in all_kinds(sight) if kind[0] == dim])


def hard_kinds(sight):
    """The set of the hard kinds."""
    kinds = [kind for kind in all_kinds(sight) if kind[0] > 0]
    return tuple([kind for kind in kinds if not any([is_below(other, kind) for other in kinds])])


def is_below(other, kind):
    """Whether other is another kind of the same dim with a row that is nowhere greater."""
    if other == kind or other[0] != kind[0]:
        return False
    return all([less <= part for less, part in zip(other[1], kind[1])])


def is_kind(sight, thing):
    """Whether thing is a kind that is there."""
    _, views = sight
    if not isinstance(thing, tuple) or len(thing) != 2:
        return False
    dim, row = thing
    return is_number(dim) and is_row(row, len(views)) and thing in all_kinds(sight)


def space_of_kind(sight, kind):
    """A SPACE whose DIMENSIONS are this kind."""
    for space in kind_spaces(sight):
        if dims(sight, space) == frozen(kind):
            return space
    raise NoPaper()


def is_space_of_kind(sight, kind, thing):
    """Whether thing is such a SPACE."""
    return is_space(thing, sight[0]) and dims(sight, thing) == frozen(kind)


def free_kind(sight, dim):
    """The kind of this dim that is there and has the greatest number at each place."""
    size, views = sight
    if dim > size:
        raise Unfit()
    return dim, tuple([min(dim, rank_of(view)) for view in views])


def hidden_lots(sight):
    """The set of the sets of VIEWS that just hide some POINT, not of 0s alone."""
    return tuple([chosen for chosen, _ in only_points(sight[0], kernels_of(sight))])


def hidden_point(sight, numbers):
    """A POINT, not of 0s alone, of which just these VIEWS show 0s alone."""
    for number in numbers:
        view_at(sight, number)
    point = only_point(sight[0], kernels_of(sight), numbers)
    if point is None:
        raise NoPaper()
    return point


def is_hidden_point(sight, numbers, thing):
    """Whether thing is such a POINT."""
    for number in numbers:
        view_at(sight, number)
    if not is_row(thing, sight[0]) or thing == (0,) * sight[0]:
        return False
    hiding = [number for number, space in enumerate(kernels_of(sight)) if is_in(space, thing)]
    return hiding == list(numbers)
