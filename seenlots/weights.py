"""Weights: FRACTIONS laid on images, their sums over POINTS, and the limits of these sums."""

from seenlots.errors import Unfit
from seenlots.lots import shown_lot
from seenlots.powers import compared, to_power
from seenlots.rows import basis_with, rank_of
from seenlots.values import combined, fraction, fraction_times, fraction_total, frozen, inverted, is_measure
from seenlots.values import on_one_bottom, turned
from seenlots.views import seen_by


def is_weight(view, thing):
    """Whether thing is a WEIGHT of a VIEW."""
    return is_measure(thing, len(view)) and thing != ()


def is_weights(sight, thing):
    """Whether thing is WEIGHTS of a SIGHT."""
    _, views = sight
    if not isinstance(thing, tuple) or len(thing) != len(views):
        return False
    return all([is_weight(view, weight) for view, weight in zip(views, thing)])


def laid(weight, image):
    """The FRACTION on an image; 0 if it has none."""
    asked = tuple(image)
    for seen, much in weight:
        if tuple(seen) == asked:
            return tuple(much)
    return 0, 1


def mass(weight, many):
    """The sum of these powers of the FRACTIONS of a WEIGHT."""
    return fraction_total([(to_power(top, many), to_power(bottom, many)) for _, (top, bottom) in weight])


def greatest(weight):
    """The greatest FRACTION of a WEIGHT."""
    tops, bottom = on_one_bottom([much for _, much in weight])
    return fraction(max(tops), bottom)


def on_whole(weights):
    """For each WEIGHT a table from its images to its FRACTIONS times a bottom; and the bottoms multiplied."""
    tables, under = [], 1
    for weight in weights:
        tops, bottom = on_one_bottom([much for _, much in weight])
        tables.append({tuple(image): top for (image, _), top in zip(weight, tops)})
        under = under * bottom
    return tables, under


def product_of(views, tables, point):
    """What tables from images to numbers tell of the images of a POINT, multiplied."""
    product = 1
    for view, table in zip(views, tables):
        product = product * table.get(seen_by(view, point), 0)
        if product == 0:
            return 0
    return product


def product_at(sight, weights, point):
    """The product of WEIGHTS at a POINT."""
    return total(sight, weights, [point])


def total(sight, weights, lot):
    """The sum of the products at the POINTS of a LOT."""
    _, views = sight
    tables, under = on_whole(weights)
    return fraction(sum([product_of(views, tables, point) for point in lot]), under)


def telling_rows(sight, weights):
    """As many ROWS as the size that tell each POINT by what they show; for each the number of its VIEW and its place.

    Raises Unfit if all VIEWS together show 0s of some POINT that is not of 0s.
    """
    size, views = sight
    basis, rows, places = [], [], []
    # VIEWS that tell much by few images come first: so fewer images are joined.
    order = sorted([(-rank_of(view), len(weights[number]), number) for number, view in enumerate(views)])
    for _, _, number in order:
        for place, row in enumerate(views[number]):
            more = basis_with(basis, row)
            if len(more) > len(basis):
                basis = more
                rows.append(row)
                places.append((number, place))
    if len(rows) < size:
        raise Unfit()
    return rows, places


def carried_products(sight, weights):
    """Pairs of each POINT where the product is not 0 and this, times a number; and the number."""
    _, views = sight
    rows, places = telling_rows(sight, weights)
    tables, under = on_whole(weights)
    size, back = inverted(rows)
    columns = turned(back, len(back))
    points = [(0,) * len(rows)]
    for number in sorted({own for own, _ in places}):
        # What the images of this VIEW make of POINTS, times size, all other telling ROWS showing 0.
        told = [(place, column) for (own, place), column in zip(places, columns) if own == number]
        parts = sorted({tuple([image[place] for place, _ in told]) for image in tables[number]})
        steps = [combined(part, [column for _, column in told], len(rows)) for part in parts]
        points = [tuple([part + more for part, more in zip(point, step)]) for point in points for step in steps]
    whole = [tuple([part // size for part in point]) for point in points if not any([part % size for part in point])]
    pairs = [(point, product_of(views, tables, point)) for point in whole]
    return [pair for pair in pairs if pair[1] > 0], under


def carried(sight, weights):
    """The set of all POINTS where the product is not 0."""
    pairs, _ = carried_products(sight, weights)
    return tuple(sorted([point for point, _ in pairs]))


def whole_total(sight, weights):
    """The sum of the products at all POINTS."""
    pairs, under = carried_products(sight, weights)
    return fraction(sum([product for _, product in pairs]), under)


def limit(sight, shares, weights):
    """The pair (above, below) of POWERS whose quotient is the limit."""
    if not all([top == 0 or top == 1 for top, _ in shares]):
        raise Unfit()
    above, below = [], []
    for (top, bottom), weight in zip(shares, weights):
        over, under = mass(weight, bottom) if top == 1 else greatest(weight)
        above.append((over, (1, bottom)))
        below.append((under, (1, bottom)))
    return tuple(above), tuple(below)


def is_within_limit(sight, shares, weights):
    """Whether the sum of the products at all POINTS is at most the limit."""
    above, below = limit(sight, shares, weights)
    top, bottom = whole_total(sight, weights)
    return top == 0 or compared(((top, (1, 1)),) + below, above + ((bottom, (1, 1)),)) <= 0


def ones(sight, lot):
    """The WEIGHTS that are 1 on the images of a LOT."""
    _, views = sight
    return tuple([tuple([(seen, (1, 1)) for seen in shown_lot(view, lot)]) for view in views])


def weight_times(weight, much):
    """The WEIGHT so many times."""
    return tuple([(tuple(image), fraction_times(part, much)) for image, part in weight])


def moved(sight, weights, point):
    """The WEIGHTS with what each VIEW shows of a POINT added to each image."""
    _, views = sight
    return tuple([moved_weight(weight, seen_by(view, point)) for view, weight in zip(views, frozen(weights))])


def moved_weight(weight, step):
    """The WEIGHT with a step added to each image, place by place."""
    return tuple([(tuple([part + more for part, more in zip(image, step)]), much) for image, much in weight])
