"""Overlay: two heaps of strokes with weights, laid over each other."""

from dotmoor.errors import BadWay, NoField
from dotmoor.fields import Map
from dotmoor.laying import pieces, rows
from dotmoor.levels import flows, levels

BOTH = "both"
EITHER = "either"
ONE = "one"
FIRST = "first"


def as_one(first, other):
    """Both dicts as one, under names that tell which of the two a stroke is of: names of both may be alike."""
    found = {f"1{name}": pair for name, pair in first.items()}
    for name, pair in other.items():
        found[f"2{name}"] = pair
    return found


def takes(pair, way):
    """True where a field with that pair of levels counts in that way."""
    first, other = pair[0] != 0, pair[1] != 0
    if way == BOTH:
        return first and other
    if way == EITHER:
        return first or other
    if way == ONE:
        return first != other
    return first and not other


class Over:
    """Two dicts of pairs (stroke, weight) by names, laid as one heap; Loose of the first, then of the other."""

    def __init__(self, first, other):
        loaded = as_one(first, other)
        laid = rows({name: stroke for name, (stroke, weight) in loaded.items()})
        self.lines = pieces(laid)
        land = self.land_of()
        by_first = {name: weight if name[0] == "1" else 0 for name, (stroke, weight) in loaded.items()}
        by_other = {name: weight if name[0] == "2" else 0 for name, (stroke, weight) in loaded.items()}
        first_levels = levels(land, flows(laid, by_first))
        other_levels = levels(land, flows(laid, by_other))
        self.pairs = list(zip(first_levels, other_levels))
        self.areas = [land.area(number) for number in range(len(self.pairs))]

    def land_of(self):
        """The map, a new one."""
        return Map(self.lines)

    def levels_of(self, number):
        """The pair of levels of a field by the first's weights and by the other's; NoField."""
        if not 0 <= number < len(self.pairs):
            raise NoField(number)
        return self.pairs[number]

    def area(self, *, way=BOTH):
        """Twice the area of all fields that count in that way together; BadWay."""
        if way not in (BOTH, EITHER, ONE, FIRST):
            raise BadWay(way)
        return sum([area for area, pair in zip(self.areas, self.pairs) if takes(pair, way)])
