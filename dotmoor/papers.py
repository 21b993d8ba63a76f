"""Papers that squares are hot or cold, papers for bent rows, and their judge, who knows the strokes alone."""

from dotmoor.heaps import causes, met_square, need_named, why
from dotmoor.strokes import ends_of, goes, squares


def through(heap, spot):
    """The rising tuple of the names of all strokes that go through the square of the spot."""
    return tuple([name for name in sorted(heap) if goes(heap[name], spot)])


def heat_paper(heap, spot):
    """A paper that the square of the spot is hot, or that it is cold."""
    found = why(heap, spot)
    return found[0] if len(found) > 0 else ("cold", through(heap, spot))


def judge_heat(heap, spot, paper):
    """True where the paper about the square of the spot is right."""
    if paper[0] == "end":
        return ends_there(heap, spot, paper[1], paper[2])
    if paper[0] == "cross":
        return cross_there(heap, spot, paper[1], paper[2])
    return paper[1] == through(heap, spot) and leave_cold(heap, spot, paper[1])


def ends_there(heap, spot, name, which):
    """True where that end of that stroke is the spot."""
    return name in heap and ends_of(heap[name])[which] == spot


def cross_there(heap, spot, name, other):
    """True where the two strokes, the lesser name first, meet at a place in the square of the spot."""
    if name >= other or name not in heap or other not in heap:
        return False
    return met_square(heap[name], heap[other]) == spot


def leave_cold(heap, spot, names):
    """True where none of these strokes ends in the square of the spot and no two of them meet at a place in it."""
    for at, name in enumerate(names):
        if spot in ends_of(heap[name]):
            return False
        if any([cross_there(heap, spot, name, other) for other in names[at + 1:]]):
            return False
    return True


def bend_paper(heap, name):
    """A paper for the bent row of a stroke: a pair (spot, paper) for each of its squares in order; NoStroke."""
    need_named(heap, name)
    known = {spot: cause for spot, cause in causes(heap)}
    return [(spot, known[spot] if spot in known else ("cold", through(heap, spot))) for spot in squares(heap[name])]


def judge_bend(heap, name, rows):
    """None of a right paper for the bent row of a stroke, else the number of its first wrong pair; NoStroke."""
    need_named(heap, name)
    due = squares(heap[name])
    for at, (spot, paper) in enumerate(rows):
        if at >= len(due) or spot != due[at] or not judge_heat(heap, spot, paper):
            return at
    return len(rows) if len(rows) < len(due) else None


def row_shown(rows):
    """The spots that a paper for a bent row shows as hot, in its order."""
    return [spot for spot, paper in rows if paper[0] != "cold"]
