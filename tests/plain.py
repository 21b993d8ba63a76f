"""What the document says of strokes and heaps, reckoned with Python's fractions in other ways than the program's."""

import random
from fractions import Fraction
from math import floor

HALF = Fraction(1, 2)


def pair(fraction):
    """A fraction as a part."""
    return (fraction.numerator, fraction.denominator)


def ends(stroke):
    return (tuple(stroke[:2]), tuple(stroke[2:]))


def at(stroke, time):
    """The place of a stroke at a time from 0 (its first end) to 1, as two fractions."""
    x1, y1, x2, y2 = stroke
    return (x1 + time * (x2 - x1), y1 + time * (y2 - y1))


def square(x, y):
    return (floor(x + HALF), floor(y + HALF))


def walk(stroke):
    """The squares along a stroke: those of its places on rims of squares, and of places between these."""
    (x1, y1), (x2, y2) = ends(stroke)
    times = {Fraction(0), Fraction(1)}
    for one, other in ((x1, x2), (y1, y2)):
        for whole in range(min(one, other), max(one, other)):
            times.add((whole + HALF - one) / (other - one))
    times = sorted(times)
    times = sorted(times + [(one + other) / 2 for one, other in zip(times, times[1:])])
    found = []
    for time in times:
        here = square(*at(stroke, time))
        if not found or found[-1] != here:
            found.append(here)
    return found


def on(stroke, place):
    """Whether a place lies on a stroke."""
    (x1, y1), (x2, y2) = ends(stroke)
    x, y = place
    if (x2 - x1) * (y - y1) != (y2 - y1) * (x - x1):
        return False
    return min(x1, x2) <= x <= max(x1, x2) and min(y1, y2) <= y <= max(y1, y2)


def common(one, other):
    """How two strokes meet: None, ("at", place) or ("along", spot, spot)."""
    shared = sorted({e for e in ends(one) if on(other, e)} | {e for e in ends(other) if on(one, e)})
    if len(shared) > 1:
        return ("along", shared[0], shared[-1])
    # Each line as the pairs for which a x + b y is c.
    a, b = one[3] - one[1], one[0] - one[2]
    d, e = other[3] - other[1], other[0] - other[2]
    c, f = a * one[0] + b * one[1], d * other[0] + e * other[1]
    if a * e == b * d:
        return ("at", tuple((number, 1) for number in shared[0])) if shared else None
    place = (Fraction(c * e - b * f, a * e - b * d), Fraction(a * f - c * d, a * e - b * d))
    if on(one, place) and on(other, place):
        return ("at", tuple(pair(number) for number in place))
    return None


def heat(heap):
    """The rising list of pairs (spot, cause) of a heap."""
    found = [(ends(stroke)[which], ("end", name, which)) for name, stroke in heap.items() for which in (0, 1)]
    for name in heap:
        for other in heap:
            met = common(heap[name], heap[other]) if name < other else None
            if met and met[0] == "at":
                found.append((square(*[Fraction(*part) for part in met[1]]), ("cross", name, other)))
    return sorted(found)


def laid(heap):
    """The bent rows of a heap."""
    hot = {spot for spot, cause in heat(heap)}
    return {name: [spot for spot in walk(heap[name]) if spot in hot] for name in sorted(heap)}


def again(rows):
    """Rows laid again."""
    spots = {spot for row in rows.values() for spot in row}
    told = {}
    for name, row in rows.items():
        told[name] = list(row[:1])
        for one, other in zip(row, row[1:]):
            told[name] += [spot for spot in walk(one + other) if spot in spots][1:]
    return told


def within(stroke, spot, far):
    """Whether a spot lies no more than so far in x, and in y, from one place of a stroke."""
    low, high = Fraction(0), Fraction(1)
    for start, end, middle in zip(stroke[:2], stroke[2:], spot):
        if start == end:
            if abs(start - middle) > far:
                return False
            continue
        times = sorted(Fraction(rim - start) / (end - start) for rim in (middle - far, middle + far))
        low, high = max(low, times[0]), min(high, times[1])
    return low <= high


def named(strokes):
    """A heap of strokes by the names aa, ab, and so on."""
    letters = "abcdefghijklmnopqrstuvwxyz"
    return {letters[at // 26] + letters[at % 26]: tuple(stroke) for at, stroke in enumerate(strokes)}


def strokes(seed, many, far):
    """So many strokes with numbers from -far to far, the same ones for the same seed."""
    source = random.Random(seed)
    found = []
    while len(found) < many:
        stroke = tuple(source.randint(-far, far) for number in range(4))
        if stroke[:2] != stroke[2:]:
            found.append(stroke)
    return found


def heaps():
    """Heaps of several strokes near one another, some of them along or on one another."""
    told = [named(strokes(seed, 2 + seed % 7, 2 + seed % 5)) for seed in range(60)]
    told += [named(strokes(seed, 12, 8)) for seed in range(6)]
    told.append(named([(-3, 0, 3, 0), (-1, 0, 5, 0), (4, 0, 1, 0), (0, -2, 0, 2), (0, 1, 0, 3), (-3, -3, 3, 3)]))
    told.append(named([(-5, y, 5, -y) for y in range(-5, 6)]))
    told.append(named([(x, -4, 3 - x, 5) for x in range(-4, 5)] + [(-4, 1, 4, 0), (4, 0, -4, 1)]))
    return told
