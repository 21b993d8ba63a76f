"""What the document says of maps and levels, reckoned with Python's fractions and rays."""

from fractions import Fraction
from functools import cmp_to_key

from plain import on

# Less than what lies between any two crossings that tests ask for, so that a ray this much higher meets no spot.
TINY = Fraction(1, 10 ** 40)
SHORT = Fraction(1, 1000)


def square(x, y, side):
    """The pieces round a square, of its least corner."""
    corners = [(x, y), (x + side, y), (x + side, y + side), (x, y + side)]
    return [tuple(sorted(step)) for step in zip(corners, corners[1:] + corners[:1])]


def quarter(right, upward):
    """Which quarter a direction is in, its first axis with it."""
    if right > 0 and upward >= 0:
        return 0
    if right <= 0 and upward > 0:
        return 1
    return 2 if right < 0 else 3


def turn(spot, others):
    """Spots in their order round a spot."""
    def later(one, other):
        a, b = one[0] - spot[0], one[1] - spot[1]
        c, d = other[0] - spot[0], other[1] - spot[1]
        return quarter(a, b) - quarter(c, d) or b * c - a * d
    return sorted(others, key=cmp_to_key(later))


def fractions(place):
    return tuple(Fraction(*part) for part in place)


def place_of(x, y):
    """A place of two numbers, as parts."""
    return tuple((Fraction(number).numerator, Fraction(number).denominator) for number in (x, y))


def left_of(one, other):
    """A place just left of the middle of a step."""
    (x, y), (x2, y2) = one, other
    return place_of(Fraction(x + x2, 2) - Fraction(y2 - y, 10 ** 6), Fraction(y + y2, 2) + Fraction(x2 - x, 10 ** 6))


def crossed(lines, y):
    """The pieces that the level line at a height meets within, as pairs (x there, the step upward)."""
    found = []
    for one, other in lines:
        low, high = sorted((one, other), key=lambda spot: spot[1])
        if low[1] < y < high[1]:
            found.append((low[0] + (y - low[1]) * (high[0] - low[0]) / (high[1] - low[1]), (low, high)))
    return sorted(found)


class PlainMap:
    def __init__(self, lines):
        self.lines = sorted(lines)
        self.spots = sorted({spot for line in lines for spot in line})
        self.near = {spot: turn(spot, [b if a == spot else a for a, b in lines if spot in (a, b)])
                     for spot in self.spots}
        self.steps = sorted([(a, b) for a, b in lines] + [(b, a) for a, b in lines])
        self.rims = []
        self.rim_at = {}
        for step in self.steps:
            if step not in self.rim_at:
                self.walk(step)
        self.outers = [None] + [at for at, rim in enumerate(self.rims) if self.doubled(rim) > 0]
        self.field = [self.field_of(at) for at in range(len(self.rims))]

    def walk(self, step):
        rim, here = [], step
        while here not in self.rim_at:
            self.rim_at[here] = len(self.rims)
            rim.append(here[0])
            near = self.near[here[1]]
            here = (here[1], near[(near.index(here[0]) - 1) % len(near)])
        assert here == step
        self.rims.append(rim)

    def doubled(self, rim):
        return sum(x * y2 - y * x2 for (x, y), (x2, y2) in zip(rim, rim[1:] + rim[:1]))

    def field_of(self, at):
        """The field left of a rim: of a hole what lies next to the left of its least spot."""
        if at in self.outers:
            return self.outers.index(at)
        x, y = min(self.rims[at])
        met = [step for cross, step in crossed(self.lines, y + TINY) if cross < x - SHORT]
        return self.field_of(self.rim_at[met[-1][::-1]]) if met else 0

    def field_at(self, place):
        """The number of a field, or None on a piece."""
        x, y = fractions(place)
        if any(on(one + other, (x, y)) for one, other in self.lines):
            return None
        met = [step for cross, step in crossed(self.lines, y + TINY) if cross > x]
        return self.field[self.rim_at[met[0]]] if met else 0

    def parts(self):
        root = {spot: spot for spot in self.spots}
        for one, other in self.lines:
            left, right = root[one], root[other]
            root = {spot: left if found == right else found for spot, found in root.items()}
        return len(set(root.values()))

    def counts(self):
        return (len(self.spots), len(self.lines), len(self.outers), self.parts())

    def rim(self, number):
        return self.rims[self.outers[number]] if number else []

    def holes(self, number):
        return sorted(rim for at, rim in enumerate(self.rims) if at not in self.outers and self.field[at] == number)

    def area(self, number):
        return self.doubled(self.rim(number)) + sum(self.doubled(rim) for rim in self.holes(number))

    def place_in(self, number):
        """A place in a field."""
        if number == 0:
            return place_of(-1000, Fraction(1, 3))
        rim = self.rim(number)
        return left_of(rim[0], rim[1])


def flow_of(rows, weights):
    """What goes along each piece."""
    steps = [(name, step) for name, row in rows.items() for step in zip(row, row[1:])]
    lines = sorted({tuple(sorted(step)) for name, step in steps})
    return {line: sum(weights[name] * ((step == line) - (step[::-1] == line)) for name, step in steps)
            for line in lines}


def loose(loaded):
    """The least spot where the weights of strokes don't come out, or None: they come and go at ends alone."""
    gained = {}
    for (x, y, x2, y2), weight in loaded.values():
        gained[(x, y)] = gained.get((x, y), 0) - weight
        gained[(x2, y2)] = gained.get((x2, y2), 0) + weight
    return min((spot for spot, gain in gained.items() if gain), default=None)


def level(flow, place):
    """The level of a place that lies on no piece."""
    x, y = fractions(place)
    total = 0
    for cross, (low, high) in crossed(list(flow), y + TINY):
        if cross > x:
            total += flow[(low, high)] if low < high else -flow[(high, low)]
    return total
