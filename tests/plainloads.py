"""Strokes with weights for tests: rings whose weights come out, and heaps whose weights don't."""

import random

from plain import named, strokes


def ring(corners, weight):
    """Pairs (stroke, weight) once round some spots."""
    return [(one + other, weight) for one, other in zip(corners, corners[1:] + corners[:1])]


def box(x, y, side, weight):
    """A square to the left round, from its least corner on."""
    return ring([(x, y), (x + side, y), (x + side, y + side), (x, y + side)], weight)


def loaded(pairs):
    """A dict of pairs (stroke, weight) by the names aa, ab, and so on."""
    weights = [weight for stroke, weight in pairs]
    return {name: (stroke, weight) for (name, stroke), weight in zip(named([s for s, w in pairs]).items(), weights)}


def some_ring(source, many, far):
    """A ring of some unlike spots with a weight from -3 to 3."""
    spots = source.sample([(x, y) for x in range(-far, far + 1) for y in range(-far, far + 1)], many)
    return ring(spots, source.randint(-3, 3))


def rings(seed, many, far):
    """Several rings, the same ones for the same seed."""
    source = random.Random(seed)
    return loaded([pair for time in range(many) for pair in some_ring(source, source.randint(2, 5), far)])


def even_loads():
    """Dicts whose weights come out."""
    told = [{}, loaded(box(0, 0, 4, 1)), loaded(box(0, 0, 9, 2) + box(2, 2, 5, -3) + box(3, 3, 2, 1))]
    told.append(loaded(box(0, 0, 6, 1) + box(3, 3, 6, 2)))
    told.append(loaded(box(0, 0, 6, 1) + box(0, 0, 6, -1)))
    told.append(loaded(box(0, 0, 2, 1) + box(8, 0, 2, 1)))
    return told + [rings(seed, 1 + seed % 3, 3 + seed % 6) for seed in range(40)]


def heavy_loads():
    """Dicts with any weights, most of which don't come out."""
    told = []
    for seed in range(40):
        source = random.Random(seed)
        told.append(loaded([(stroke, source.randint(-1, 2)) for stroke in strokes(seed, 1 + seed % 8, 3 + seed % 4)]))
    return told


def heap_of(load):
    return {name: stroke for name, (stroke, weight) in load.items()}


def weights_of(load):
    return {name: weight for name, (stroke, weight) in load.items()}
