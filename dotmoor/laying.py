"""Laying: the bent rows of a heap, their pieces, and rows laid again until they rest."""

from dotmoor.bends import ALL, WALK, bent, need_way, walked
from dotmoor.heaps import hot


def rows(heap, *, way=ALL):
    """The laid rows of a heap, names rising; BadWay."""
    # Asked here as well, since an empty heap has no row to bend.
    need_way(way)
    spots = hot(heap)
    return {name: bent(heap[name], spots, way=way) for name in sorted(heap)}


def steps_of(row):
    """The pairs of spots that stand beside one another in a row, in its order."""
    return list(zip(row, row[1:]))


def pieces(laid):
    """The rising list of the pieces of laid rows."""
    return sorted({(min(one, other), max(one, other)) for row in laid.values() for one, other in steps_of(row)})


def laid_again(laid):
    """The rows with each step bent through the squares of all their spots, names in the same order."""
    known = {spot: True for row in laid.values() for spot in row}
    return {name: row_again(row, known) for name, row in laid.items()}


def row_again(row, known):
    """A row with each of its steps bent through the squares of the known spots."""
    again = list(row[:1])
    for one, other in steps_of(row):
        # The first spot of a step stands in the row already, as the last one of the step ahead.
        again.extend(walked((*one, *other), known)[1:])
    return again


def at_rest(laid):
    """True where laying again leaves the rows as they are."""
    again = laid_again(laid)
    return all([again[name] == list(row) for name, row in laid.items()])


def rest(heap):
    """The laid rows at which a heap comes to rest, names rising, and how many layings that took."""
    laid, rounds = rows(heap, way=WALK), 1
    again = laid_again(laid)
    while again != laid:
        laid, rounds = again, rounds + 1
        again = laid_again(laid)
    return (laid, rounds)
