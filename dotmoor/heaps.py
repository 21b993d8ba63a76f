"""Heaps: dicts of strokes by names, and the squares that their ends and meetings make hot."""

from dotmoor.strokes import ends_of, meet, square_of


def causes(heap):
    """The rising list of pairs (spot, cause): why which squares are hot."""
    return sorted(end_causes(heap) + cross_causes(heap))


def end_causes(heap):
    """The pairs for both ends of each stroke."""
    found = []
    for name, stroke in heap.items():
        for which, spot in enumerate(ends_of(stroke)):
            found.append((spot, ("end", name, which)))
    return found


def cross_causes(heap):
    """The pairs for each two strokes that meet at a place."""
    found = []
    names = sorted(heap)
    for at, name in enumerate(names):
        for other in names[at + 1:]:
            met = meet(heap[name], heap[other])
            # Along a stretch they have no one place in common, and its ends are hot as ends of strokes.
            if met is not None and met[0] == "at":
                found.append((square_of(met[1]), ("cross", name, other)))
    return found


def hot(heap):
    """The rising list of the spots of hot squares."""
    return sorted({spot for spot, cause in causes(heap)})


def why(heap, spot):
    """The rising list of the causes for which the square of the spot is hot."""
    return [cause for caused, cause in causes(heap) if caused == spot]
