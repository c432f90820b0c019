"""Stores: which CELLS can stay in a small store between the places of an ORDER at which they are touched.

An ORDER is told by rows: for each place the list of the CELLS that its POINT touches, one of each array.
"""


def stretches_of(rows):
    """Triples (cell, place, next place that touches it), the next places ascending."""
    last, found = {}, []
    for place, row in enumerate(rows):
        for cell in row:
            if cell in last:
                found.append((cell, last[cell], place))
            last[cell] = place
    return found


def kept_of(rows, room):
    """As many stretches as can be kept, pairs (cell, place); by how many each place is passed; the last full place.

    Taken is each stretch that can be, those that end first ahead of others: one that is passed over for it would pass,
    up to where this one ends, every place from the first one on which both would be too many.
    """
    kept = []
    passed = [0] * len(rows)
    full = -1 if room > 0 else len(rows)
    for cell, place, later in stretches_of(rows):
        if full <= place or later == place + 1:
            kept.append((cell, place))
            full = max(full, filled_up(passed, place, later, room))
    return kept, passed, full


def filled_up(passed, place, later, room):
    """One more that passes each place between these two; the last one that is full then, -1 if there is none."""
    full = -1
    for between in range(place + 1, later):
        passed[between] = passed[between] + 1
        if passed[between] == room:
            full = between
    return full


def fence_of(rows, room):
    """A set of places such that room times their number, and all stretches that pass none of them, come to the least.

    least[k] is the least sum for the places ahead of place k - 1, this being the last one taken, and the stretches
    so far that lie behind it; for k = 0 none is taken.
    """
    least, before = [0], [0]
    ends = {}
    for _, place, later in stretches_of(rows):
        ends.setdefault(later, []).append(place)
    for later in range(len(rows)):
        for place in ends.get(later, []):
            least[:place + 2] = [much + 1 for much in least[:place + 2]]
        best = min(least)
        before.append(least.index(best))
        least.append(best + room)
    found = []
    last = least.index(min(least))
    while last > 0:
        found.append(last - 1)
        last = before[last]
    return tuple(reversed(found))


def unpassed(rows, places):
    """How many stretches pass none of these places."""
    ahead = [0]
    for place in range(len(rows)):
        ahead.append(ahead[-1] + int(place in places))
    return sum([ahead[later] == ahead[place + 1] for _, place, later in stretches_of(rows)])


def least_loads(rows, uses, room):
    """At least the loads of each ORDER that begins with rows and touches each CELL so often as uses tell."""
    kept, passed, full = kept_of(rows, room)
    end = len(rows)
    last = {cell: place for place, row in enumerate(rows) for cell in row}
    left = dict(uses)
    for row in rows:
        for cell in row:
            left[cell] = left[cell] - 1
    spared = len(kept)
    for cell, times in left.items():
        if times > 0:
            # All touches to come but the first may be spared, and this one, too, if the CELL can stay up to here.
            spared = spared + times - 1
            if cell in last and (full <= last[cell] or last[cell] == end - 1):
                spared = spared + 1
                full = max(full, filled_up(passed, last[cell], end, room))
    return sum(uses.values()) - spared


def best_of_orders(rows, room):
    """The least loads of all ORDERS of rows, and the numbers of the rows in the least ORDER that has them."""
    uses = {}
    for row in rows:
        for cell in row:
            uses[cell] = uses.get(cell, 0) + 1
    loads = len(uses)
    order = order_within(rows, uses, room, (), loads)
    while order is None:
        loads = loads + 1
        order = order_within(rows, uses, room, (), loads)
    return loads, order


def order_within(rows, uses, room, begun, most):
    """The least ORDER that begins so and has at most so many loads; None if there is none."""
    if least_loads([rows[number] for number in begun], uses, room) > most:
        return None
    if len(begun) == len(rows):
        return begun
    tried = []
    for number, row in enumerate(rows):
        # Of what touches the same CELLS the first one is as good as all others.
        if number not in begun and row not in tried:
            tried.append(row)
            order = order_within(rows, uses, room, begun + (number,), most)
            if order is not None:
                return order
    return None
