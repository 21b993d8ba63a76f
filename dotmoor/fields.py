"""Fields: the map that pieces make, with its rims, its holes and the fields between them."""

from dotmoor.errors import NoField, NoPiece, NoPoint, OnLine
from dotmoor.turns import around, crossing, lies_on


def neighbours(lines):
    """The neighbours of each end of pieces, in their order round it, by rising spots."""
    found = {}
    for one, other in lines:
        found.setdefault(one, []).append(other)
        found.setdefault(other, []).append(one)
    return {spot: around(spot, found[spot]) for spot in sorted(found)}


def steps_behind(fans):
    """For each step the one that goes on behind it, of the neighbours by spots."""
    found = {}
    for spot, others in fans.items():
        for at, other in enumerate(others):
            # Ahead of the first neighbour stands the last one, which is where Python's -1 leads.
            found[(other, spot)] = (spot, others[at - 1])
    return found


def rims_of(fans):
    """All rims as lists of their steps, each from its least one on, rising by these."""
    behind = steps_behind(fans)
    seen = set()
    found = []
    for least in sorted(behind):
        if least not in seen:
            rim = [least]
            while behind[rim[-1]] != least:
                rim.append(behind[rim[-1]])
            for step in rim:
                seen.add(step)
            found.append(rim)
    return found


def doubled(rim):
    """Twice the area of a rim, of its steps."""
    return sum([one[0] * other[1] - one[1] * other[0] for one, other in rim])


def winds(rim, place):
    """True where the rim, of its steps, goes round the place."""
    return sum([crossing(one, other, place) for one, other in rim]) != 0


def spots_of(rim):
    """The spots from which the steps of a rim go."""
    return [one for one, other in rim]


class Map:
    """A map of pieces that have no place in common but ends."""

    def __init__(self, lines):
        self.lines = sorted(lines)
        self.fans = neighbours(self.lines)
        rims = rims_of(self.fans)
        self.outers = [[]] + [rim for rim in rims if doubled(rim) > 0]
        self.hollows = [[] for rim in self.outers]
        self.lefts = {}
        for number, rim in enumerate(self.outers):
            self.mark(rim, number)
        for rim in rims:
            if doubled(rim) <= 0:
                self.sink(rim)

    def mark(self, rim, number):
        """Notes the field left of all steps of a rim."""
        for step in rim:
            self.lefts[step] = number

    def sink(self, rim):
        """Notes the field in which a hole lies."""
        # Its first spot is the least of its part: a little towards lesser x no rim of that part goes round it.
        x, y = rim[0][0]
        number = self.innermost(((x, 1), (y, 1)))
        self.hollows[number].append(rim)
        self.mark(rim, number)

    def innermost(self, place):
        """The number of the field with the least outer rim that goes round the place, 0 where none does."""
        found = [number for number, rim in enumerate(self.outers) if winds(rim, place)]
        return min(found, key=lambda number: doubled(self.outers[number]), default=0)

    def need_field(self, number):
        """None of the number of a field, else NoField."""
        if not 0 <= number < len(self.outers):
            raise NoField(number)

    def spots(self):
        """The rising list of the ends of pieces."""
        return list(self.fans)

    def pieces(self):
        """The rising list of pieces."""
        return list(self.lines)

    def turned(self, spot):
        """The neighbours of a spot in their order round it; NoPoint."""
        if spot not in self.fans:
            raise NoPoint(spot)
        return list(self.fans[spot])

    def counts(self):
        """How many spots, pieces, fields (the outside counted) and parts there are."""
        # Each part has just one hole.
        parts = sum([len(rims) for rims in self.hollows])
        return (len(self.fans), len(self.lines), len(self.outers), parts)

    def rim(self, number):
        """The spots of the outer rim of a field, none of the outside; NoField."""
        self.need_field(number)
        return spots_of(self.outers[number])

    def holes(self, number):
        """The rising list of the rims of the holes in a field; NoField."""
        self.need_field(number)
        return [spots_of(rim) for rim in self.hollows[number]]

    def area(self, number):
        """Twice the area of a field; NoField."""
        self.need_field(number)
        return doubled(self.outers[number]) + sum([doubled(rim) for rim in self.hollows[number]])

    def beside(self, one, other):
        """The number of the field left of the step from one spot to the other; NoPiece."""
        if (one, other) not in self.lefts:
            raise NoPiece((one, other))
        return self.lefts[(one, other)]

    def field_at(self, place):
        """The number of the field in which a place lies; OnLine."""
        if any([lies_on(one, other, place) for one, other in self.lines]):
            raise OnLine(place)
        return self.innermost(place)
