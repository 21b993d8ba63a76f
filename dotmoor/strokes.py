"""Strokes: straight lines (x1, y1, x2, y2) between two unlike spots, their squares, and how two of them meet."""

from dotmoor.errors import BadSpot, BadStroke
from dotmoor.parts import lowest, nearest
from dotmoor.spots import is_spot, sign


def need_stroke(stroke):
    """None of a stroke; BadSpot of a pair that is no spot, the first one first, BadStroke of ends alike."""
    first, second = ends_of(stroke)
    if not is_spot(first):
        raise BadSpot(first)
    if not is_spot(second):
        raise BadSpot(second)
    if first == second:
        raise BadStroke(stroke)


def ends_of(stroke):
    """The first and the second spot of a stroke."""
    x1, y1, x2, y2 = stroke
    return ((x1, y1), (x2, y2))


def heading(stroke):
    """How a stroke goes in x and in y: 1 where it grows, -1 where it shrinks, 0 where it stays."""
    x1, y1, x2, y2 = stroke
    return (sign(x2 - x1), sign(y2 - y1))


def goes(stroke, spot):
    """True where the stroke goes through the square of the spot."""
    return passes(stroke, spot, spot)


def passes(stroke, least, greatest):
    """True where the stroke goes through a square from the one of least (in x and in y) to that of greatest."""
    x1, y1, x2, y2 = stroke
    if max(x1, x2) < least[0] or greatest[0] < min(x1, x2):
        return False
    if max(y1, y2) < least[1] or greatest[1] < min(y1, y2):
        return False
    wide, tall = abs(x2 - x1), abs(y2 - y1)
    if wide == 0 or tall == 0:
        return True
    in_x, out_x = moments(x1, x2, tall, least[0], greatest[0])
    in_y, out_y = moments(y1, y2, wide, least[1], greatest[1])
    return max(0, in_x, in_y) <= min(4 * wide * tall, out_x, out_y)


def moments(start, end, unit, least, greatest):
    """The first and the last moment at which a way from start to end is within half a step of least to greatest.

    The whole way takes 4 moments for each of its steps and units, so that it meets each rim at an even moment. For
    a rim that is not the squares' own the odd moment beside it stands, on the inner side: so two stretches that
    merely touch there have no moment in common.
    """
    lower, upper = 2 * (least - start) - 1, 2 * (greatest - start) + 1
    if start < end:
        return (2 * unit * lower, 2 * unit * upper - 1)
    return (1 - 2 * unit * upper, -2 * unit * lower)


def squares(stroke):
    """The spots of the squares through which the stroke goes, from its first end on."""
    here, end = ends_of(stroke)
    found = [here]
    while here != end:
        here = square_behind(stroke, here)
        found.append(here)
    return found


def square_behind(stroke, here):
    """The square into which the stroke goes from that of here, which is not its last one."""
    x, y = here
    right, upward = heading(stroke)
    if right != 0 and goes(stroke, (x + right, y)):
        return (x + right, y)
    if upward != 0 and goes(stroke, (x, y + upward)):
        return (x, y + upward)
    # A stroke never turns back in x or in y, so that from here it goes through no square but one of these three.
    return (x + right, y + upward)


def square_of(place):
    """The whole point in whose square the place lies."""
    x, y = place
    return (nearest(x), nearest(y))


def meet(one, other):
    """None, ("at", place), or ("along", spot, spot) with the lesser spot first."""
    x1, y1, x2, y2 = one
    x3, y3, x4, y4 = other
    area = (x2 - x1) * (y4 - y3) - (y2 - y1) * (x4 - x3)
    if area == 0:
        return meet_in_line(one, other)
    along_one = (x3 - x1) * (y4 - y3) - (y3 - y1) * (x4 - x3)
    along_other = (x3 - x1) * (y2 - y1) - (y3 - y1) * (x2 - x1)
    if area < 0:
        area, along_one, along_other = -area, -along_one, -along_other
    if not (0 <= along_one <= area and 0 <= along_other <= area):
        return None
    x = lowest(x1 * area + along_one * (x2 - x1), area)
    y = lowest(y1 * area + along_one * (y2 - y1), area)
    return ("at", (x, y))


def meet_in_line(one, other):
    """How two strokes meet that have the same direction, or one turned about."""
    x1, y1, x2, y2 = one
    x3, y3, x4, y4 = other
    if (x3 - x1) * (y2 - y1) != (y3 - y1) * (x2 - x1):
        return None
    # Spots on one line rise along it, so that the lesser and the greater ends bound what is in common.
    begin = max(min((x1, y1), (x2, y2)), min((x3, y3), (x4, y4)))
    end = min(max((x1, y1), (x2, y2)), max((x3, y3), (x4, y4)))
    if begin > end:
        return None
    if begin == end:
        return ("at", (lowest(begin[0]), lowest(begin[1])))
    return ("along", begin, end)
