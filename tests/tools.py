"""What the tests share: ways to call a function, values that are nothing, and counting with Fractions."""

import copy
import inspect
from fractions import Fraction
from itertools import combinations, permutations, product
from math import gcd


def lists(value):
    """The same value with lists for tuples, at any depth."""
    if isinstance(value, (list, tuple)):
        return [lists(part) for part in value]
    return value


def tuples(value):
    """The same value with tuples for lists, at any depth."""
    if isinstance(value, (list, tuple)):
        return tuple(tuples(part) for part in value)
    return value


def is_plain(value):
    """Whether a value has no list in it."""
    if isinstance(value, tuple):
        return all(is_plain(part) for part in value)
    return value is None or isinstance(value, (bool, int, str))


def outcome(function, args, names=None):
    """What a call returns or raises."""
    try:
        value = function(*args) if names is None else function(**dict(zip(names, args)))
    except (LookupError, ValueError) as error:
        if type(error).__module__ != "seenlots.errors":
            raise
        return "error", error
    return "value", value


def told(result):
    """A text that is the same exactly for the same outcomes, kinds of values included."""
    kind, value = result
    if kind == "error":
        return type(value).__name__ + repr(vars(value))
    return repr(value)


def agreed(case, function, *args):
    """The result of a call, which is the same with lists for tuples, with tuples for lists, by names and again."""
    names = list(inspect.signature(function).parameters)
    case.assertEqual(len(names), len(args))
    turned = [arg if name == "thing" else lists(arg) for name, arg in zip(names, args)]
    tupled = [arg if name == "thing" else tuples(arg) for name, arg in zip(names, args)]
    results = []
    for way in (list(args), turned, tupled):
        for by_names in (None, names):
            before = copy.deepcopy(way)
            results.append(outcome(function, way, by_names))
            case.assertEqual(repr(way), repr(before), "an argument was changed")
    for result in results:
        case.assertEqual(told(result), told(results[0]), (function.__name__, args))
    kind, value = results[0]
    if kind == "error":
        raise value
    if isinstance(value, list):
        case.assertTrue(all(is_plain(part) for part in value))
        case.assertEqual(len({id(result[1]) for result in results}), len(results), "a list is not new")
    else:
        case.assertTrue(is_plain(value), value)
    return value


def deep(kind, levels):
    """A value nested so many levels deep."""
    value = kind(())
    for _ in range(levels - 1):
        value = kind((value,))
    return value


ODD = (
    True, False, None, 0, 1, -1, 2, 10 ** 30, "", "a", "()", (), [], ((),), [()], ([],), [[]], (1,), [1], (True,), (None,), ("a",),
    (0,), (0, 0), (1, 0), (1, 1), [1, 0], (1, True), (False, 1), ("1", 0), ((1, 0),), [(1, 0)], ([1, 0],), ((1, False),),
    ((0, 1),), ((0, 0),), ((1, 0), (0, 1)), [[1, 0], [0, 1]], ((1, 0), (0,)), ((1, 0), None), ((1, 0), "01"), ((1,), (1,)),
    (((1, 0),),), (2, ()), (2, (((1, 0),),)), [2, []], (2, [((1, 0),)]), (True, ()), ((2, (1, 2)),), ((2, (2, 4)),),
    ((1, (0, 1)), (1, (0, 1))), ((1, 2), (3, 4), (5, 6)), (1, 2, 3), (1, (1, 1, 1)), ((1, 2, 3), (4, 5, 6)),
    deep(tuple, 100), deep(list, 100), ((1, 0), deep(tuple, 99)), (2, deep(tuple, 99)), (2, (deep(list, 98),)),
)


def spoiled(thing):
    """Values like thing, but with one part of another kind: a list for a tuple, True for 1, and so on."""
    if isinstance(thing, tuple):
        yield list(thing)
        yield thing + (None,)
        yield None
        for place, part in enumerate(thing):
            for other in spoiled(part):
                yield thing[:place] + (other,) + thing[place + 1:]
    else:
        if thing in (0, 1):
            yield bool(thing)
        yield None
        yield thing.title() if isinstance(thing, str) else str(thing)
        yield (thing,)
        yield [thing]
        yield deep(tuple, 90)


def check_thing(case, function, *args, good=()):
    """The function, told args and a thing last, is True for the good ones, False for spoiled ones, never raises."""
    for thing in ODD:
        answer = function(*args, thing)
        case.assertIn(repr(answer), ("True", "False"))
        if thing not in good:
            # Whatever is odd and told to be right is right only as it stands.
            for other in spoiled(thing) if answer else ():
                case.assertIs(function(*args, other), False, (function.__name__, args, other))
    for thing in good:
        before = copy.deepcopy(thing)
        case.assertIs(agreed(case, function, *args, thing), True, (function.__name__, args, thing))
        case.assertEqual(repr(thing), repr(before))
        for other in spoiled(thing):
            case.assertIs(function(*args, other), False, (function.__name__, args, other))


def dot(row, point):
    return sum(part * number for part, number in zip(row, point, strict=True))


def rank(rows):
    """The rank of rows, by Fractions."""
    left = [[Fraction(part) for part in row] for row in rows]
    count = 0
    width = len(left[0]) if left else 0
    for place in range(width):
        usable = [k for k in range(count, len(left)) if left[k][place] != 0]
        if not usable:
            continue
        left[count], left[usable[0]] = left[usable[0]], left[count]
        for k in range(count + 1, len(left)):
            much = left[k][place] / left[count][place]
            left[k] = [part - much * less for part, less in zip(left[k], left[count])]
        count += 1
    return count


def det(table):
    """The determinant, by all permutations."""
    total = 0
    for order in permutations(range(len(table))):
        swaps = sum(order[i] > order[k] for i, k in combinations(range(len(order)), 2))
        part = (-1) ** swaps
        for row, place in enumerate(order):
            part *= table[row][place]
        total += part
    return total


def index(rows):
    """The index of the whole sums of rows: the greatest divisor of all determinants of as many ROWS as the rank."""
    count = rank(rows)
    if count == 0:
        return 1
    common = 0
    for some in combinations(rows, count):
        for places in combinations(range(len(rows[0])), count):
            common = gcd(common, det([[row[place] for place in places] for row in some]))
    return common


def spans(rows, point):
    """Whether point is a sum of multiples of rows by FRACTIONS."""
    return rank(list(rows) + [point]) == rank(rows)


def times_rows(times, rows, size):
    """The ROW that comes of rows, each taken so often."""
    return tuple(sum(much * row[place] for much, row in zip(times, rows, strict=True)) for place in range(size))


def points(size, most):
    """All POINTS with numbers from -most to most."""
    return list(product(range(-most, most + 1), repeat=size))
