"""Heaps: dicts of strokes by names, and the squares that their ends and meetings make hot."""

from dotmoor.errors import NoStroke
from dotmoor.strokes import ends_of, meet, square_of


def need_named(heap, name):
    """None of the name of a stroke of the heap, else NoStroke."""
    if name not in heap:
        raise NoStroke(name)


def met_square(one, other):
    """The spot in whose square two strokes meet at a place, None where they don't meet at just one."""
    met = meet(one, other)
    # Along a stretch they have no one place in common, and its ends are hot as ends of strokes.
    if met is None or met[0] == "along":
        return None
    return square_of(met[1])


def causes(heap):
    """The rising list of pairs (spot, cause): why which squares are hot."""
    return sorted(end_causes(heap) + cross_causes(heap))


def end_causes(heap):
    """The pairs for both ends of each stroke."""
    found = []
    for name, stroke in heap.items():
        for which, spot in enumerate(ends_of(stroke)):
            found.append((spot, ("end", name, which)))
    return found


def cross_causes(heap):
    """The pairs for each two strokes that meet at a place."""
    found = []
    names = sorted(heap)
    for at, name in enumerate(names):
        for other in names[at + 1:]:
            spot = met_square(heap[name], heap[other])
            if spot is not None:
                found.append((spot, ("cross", name, other)))
    return found


def hot(heap):
    """The rising list of the spots of hot squares."""
    return sorted({spot for spot, cause in causes(heap)})


def why(heap, spot):
    """The rising list of the causes for which the square of the spot is hot."""
    return [cause for caused, cause in causes(heap) if caused == spot]
