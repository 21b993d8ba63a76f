"""Drawings: strokes by names, with weights, led on by deeds; the bent rows that were asked are kept."""

from dotmoor.bends import ALL, bent, need_way
from dotmoor.errors import BadEnd, BadName, BadSpot, BadWeight, Full, NoPiece, Taken
from dotmoor.fields import Map
from dotmoor.heaps import hot, need_named, why
from dotmoor.laying import pieces, rest, rows, steps_of
from dotmoor.levels import flows, level_at, levels
from dotmoor.spots import is_spot
from dotmoor.strokes import ends_of, goes, need_stroke

MOST = 16
HEAVY = 3
LONGEST = 6
LETTERS = "abcdefghijklmnopqrstuvwxyz"


def need_name(name):
    """None of one to six letters a to z, else BadName."""
    if not 1 <= len(name) <= LONGEST or any([letter not in LETTERS for letter in name]):
        raise BadName(name)


def need_weight(weight):
    """None of a number from -3 to 3, else BadWeight."""
    if abs(weight) > HEAVY:
        raise BadWeight(weight)


class Drawing:
    """At most 16 strokes by names, with weights."""

    def __init__(self):
        self.strokes = {}
        self.weights = {}
        self.rows_kept = {}

    def put(self, name, stroke, *, weight=1):
        """Puts a stroke in; BadName, Taken, BadSpot, BadStroke, BadWeight, Full."""
        need_name(name)
        if name in self.strokes:
            raise Taken(name)
        need_stroke(stroke)
        need_weight(weight)
        if len(self.strokes) >= MOST:
            raise Full(MOST)
        self.renew(name, {**self.strokes, name: stroke})
        self.weights[name] = weight

    def out(self, name):
        """Takes a stroke out; NoStroke."""
        need_named(self.strokes, name)
        self.renew(name, {other: stroke for other, stroke in self.strokes.items() if other != name})
        del self.weights[name]

    def move(self, name, end, spot):
        """Moves an end of a stroke to a spot; NoStroke, BadEnd, BadSpot, BadStroke."""
        need_named(self.strokes, name)
        if end not in (0, 1):
            raise BadEnd(end)
        first, second = ends_of(self.strokes[name])
        moved = (*spot, *second) if end == 0 else (*first, *spot)
        need_stroke(moved)
        self.renew(name, {**self.strokes, name: moved})

    def weigh(self, name, weight):
        """Gives a stroke another weight; NoStroke, BadWeight."""
        need_named(self.strokes, name)
        need_weight(weight)
        self.weights[name] = weight

    def renew(self, name, strokes):
        """Takes over strokes that differ in that of the name alone, and lets go the kept rows that this touches."""
        self.rows_kept.pop(name, None)
        changed = sorted(set(hot(self.strokes)) ^ set(hot(strokes)))
        for asked in list(self.rows_kept):
            if any([goes(strokes[asked], spot) for spot in changed]):
                del self.rows_kept[asked]
        self.strokes = strokes

    def names(self):
        """The rising list of the names of strokes."""
        return sorted(self.strokes)

    def stroke_of(self, name):
        """The stroke of that name; NoStroke."""
        need_named(self.strokes, name)
        return self.strokes[name]

    def weight_of(self, name):
        """The weight of the stroke of that name; NoStroke."""
        need_named(self.strokes, name)
        return self.weights[name]

    def heap(self):
        """The strokes by names, which rise."""
        return {name: self.strokes[name] for name in self.names()}

    def loaded(self):
        """The pairs (stroke, weight) by names, which rise."""
        return {name: (self.strokes[name], self.weights[name]) for name in self.names()}

    def hot(self):
        """The rising list of the spots of hot squares."""
        return hot(self.strokes)

    def why(self, spot):
        """The rising list of the causes for which the square of the spot is hot; BadSpot."""
        if not is_spot(spot):
            raise BadSpot(spot)
        return why(self.strokes, spot)

    def row_of(self, name, *, way=ALL):
        """The bent row of a stroke, which is kept; NoStroke, BadWay."""
        need_named(self.strokes, name)
        need_way(way)
        if name not in self.rows_kept:
            self.rows_kept[name] = bent(self.strokes[name], hot(self.strokes), way=way)
        return list(self.rows_kept[name])

    def kept(self):
        """The names of the strokes whose rows are kept, in the order in which these were first asked."""
        return list(self.rows_kept)

    def pieces(self):
        """The rising list of the pieces of the bent rows."""
        return pieces(rows(self.strokes))

    def owners(self, piece):
        """The rising list of pairs (name, 1 or -1) of strokes that step along a piece, there or back; NoPiece."""
        laid = rows(self.strokes)
        if piece not in pieces(laid):
            raise NoPiece(piece)
        back = (piece[1], piece[0])
        found = [(name, 1) for name, row in laid.items() if piece in steps_of(row)]
        return sorted(found + [(name, -1) for name, row in laid.items() if back in steps_of(row)])

    def rest_of(self, name):
        """The row of a stroke at rest; NoStroke."""
        need_named(self.strokes, name)
        return rest(self.strokes)[0][name]

    def rounds(self):
        """How many layings it takes until the rows rest."""
        return rest(self.strokes)[1]

    def land(self):
        """The map of the pieces, a new one."""
        return Map(self.pieces())

    def flow(self):
        """What goes along each piece, pieces rising."""
        return flows(rows(self.strokes), self.weights)

    def levels(self):
        """The levels of the fields of the map, by number; Loose."""
        return levels(self.land(), self.flow())

    def level_at(self, place):
        """The level of a place that lies on no piece; Loose, OnLine."""
        return level_at(self.flow(), place)

    def bare(self):
        """A drawing of its own with the same strokes and weights, no row kept."""
        made = Drawing()
        made.strokes = dict(self.strokes)
        made.weights = dict(self.weights)
        return made

    def twin(self):
        """A drawing of its own with the same strokes and weights, and the same rows kept."""
        made = self.bare()
        made.rows_kept = {name: list(row) for name, row in self.rows_kept.items()}
        return made

    def __len__(self):
        return len(self.strokes)

    def __eq__(self, other):
        return isinstance(other, Drawing) and self.strokes == other.strokes and self.weights == other.weights

    def __repr__(self):
        return f"Drawing({len(self.strokes)} strokes, {len(hot(self.strokes))} hot)"
