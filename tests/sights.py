"""SIGHTS that the tests share: those of the document, edges, and many small ones."""

from random import Random

from tests.test_spaces import some_view

SLANT = (2, (((1, 0),), ((0, 1),), ((1, 1),)))
BOXES = (3, (((0, 1, 0), (0, 0, 1)), ((1, 0, 0), (0, 0, 1)), ((1, 0, 0), (0, 1, 0))))
CRATE = (3, (((1, 0, 0), (0, 1, 0)), ((1, 0, 0), (0, 0, 1)), ((0, 1, 0), (0, 0, 1))))

# Without VIEWS, with the VIEW (), ROWS of 0s, one ROW twice, VIEWS that are alike, size 1.
EDGES = (
    (1, ()), (2, ()), (3, ()), (1, ((),)), (3, ((), ())), (1, (((2,),), ((0,),))), (2, (((0, 0),), ((1, 2), (1, 2)))),
    (2, (((1, 0),), ((-3, 0),), ((1, 0), (2, 0)))), (3, (((1, 1, 1),), ((2, 2, 2), (0, 0, 0)), ())),
    (3, (((1, 0, 0), (0, 1, 0), (0, 0, 1)), ((0, 0, 0),))), (1, (((99,),), ((-99,), (98,)))),
    (2, (((99, -98),), ((-99, 98),), ((97, 99), (1, 1), (98, 97)))),
)


def some_sights(seed, many, most=2, sizes=(1, 2, 3), views=4):
    """Many SIGHTS of these sizes, with up to so many VIEWS, numbers to most."""
    some = Random(seed)
    found = []
    for _ in range(many):
        size = some.choice(sizes)
        several = [some_view(some, size, most) for _ in range(some.randint(0, views))]
        if len(several) > 1 and some.random() < 0.2:
            several[-1] = several[0]
        found.append((size, tuple(several)))
    return found


def small_sights(seed, many):
    """The SIGHTS of the document, the edges, and many more."""
    return [SLANT, BOXES, CRATE] + list(EDGES) + some_sights(seed, many, 1) + some_sights(seed + 1, many, 3)
