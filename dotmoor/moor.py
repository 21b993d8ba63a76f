"""Moors: drawings by names, led on by deeds in steps that can be taken back and done again."""

from dotmoor.bends import ALL
from dotmoor.drawing import Drawing, need_name
from dotmoor.errors import Full, NoDrawing, NothingLeft, Taken
from dotmoor.overlay import Over

DRAWINGS = 6


def found(drawings, name):
    """The drawing of that name among drawings; NoDrawing."""
    if name not in drawings:
        raise NoDrawing(name)
    return drawings[name]


def begin(drawings, name, most):
    """Adds an empty drawing to drawings of which there may be so many; BadName, Taken, Full."""
    need_name(name)
    if name in drawings:
        raise Taken(name)
    if len(drawings) >= most:
        raise Full(most)
    drawings[name] = Drawing()


def pour(drawing, other):
    """Puts all strokes of the other drawing into the first one as well; Taken, Full."""
    for name, (stroke, weight) in other.loaded().items():
        drawing.put(name, stroke, weight=weight)


def carry_out(drawings, deed, most):
    """Does a deed to drawings of which there may be so many; what is refused may be done in part."""
    word, name, *rest = deed
    if word == "new":
        begin(drawings, name, most)
        return
    drawing = found(drawings, name)
    if word == "wipe":
        del drawings[name]
    elif word == "join":
        pour(drawing, found(drawings, rest[0]))
    elif word == "put":
        drawing.put(rest[0], rest[1], weight=rest[2])
    elif word == "out":
        drawing.out(rest[0])
    elif word == "move":
        drawing.move(rest[0], rest[1], rest[2])
    else:
        drawing.weigh(rest[0], rest[1])


def twins(drawings):
    """Drawings of their own by the same names, with the same rows kept."""
    return {name: drawing.twin() for name, drawing in drawings.items()}


def bared(drawings):
    """Drawings of their own by the same names, with no row kept."""
    return {name: drawing.bare() for name, drawing in drawings.items()}


class Moor:
    """Drawings by names, at most as many as it was made for."""

    def __init__(self, *, most=DRAWINGS):
        self.most = most
        self.drawings = {}
        # What the drawings were behind each step, before and after the one now: these are never changed again.
        self.earlier = []
        self.later = []

    def do(self, deed):
        """Does a deed as one step; refused as the deed is."""
        self.together([deed])

    def together(self, deeds):
        """Does several deeds as one step, or where one is refused none."""
        if len(deeds) == 0:
            return
        drawings = twins(self.drawings)
        for deed in deeds:
            carry_out(drawings, deed, self.most)
        self.earlier.append(self.drawings)
        self.drawings = drawings
        self.later = []

    def undo(self):
        """Takes the last step back; NothingLeft."""
        if len(self.earlier) == 0:
            raise NothingLeft()
        self.later.append(self.drawings)
        self.drawings = bared(self.earlier.pop())

    def redo(self):
        """Does the step again that was taken back last; NothingLeft."""
        if len(self.later) == 0:
            raise NothingLeft()
        self.earlier.append(self.drawings)
        self.drawings = bared(self.later.pop())

    def depth(self):
        """How many steps can be taken back, and how many done again."""
        return (len(self.earlier), len(self.later))

    def names(self):
        """The rising list of the names of drawings."""
        return sorted(self.drawings)

    def drawing(self, name):
        """A twin of the drawing of that name; NoDrawing."""
        return found(self.drawings, name).twin()

    def row_of(self, name, stroke, *, way=ALL):
        """The bent row of a stroke of a drawing, which keeps it; NoDrawing, NoStroke, BadWay."""
        return found(self.drawings, name).row_of(stroke, way=way)

    def kept(self, name):
        """The names of the strokes of a drawing whose rows are kept, as they were asked; NoDrawing."""
        return found(self.drawings, name).kept()

    def over(self, name, other):
        """One drawing laid over another one; NoDrawing, Loose."""
        first = found(self.drawings, name)
        second = found(self.drawings, other)
        return Over(first.loaded(), second.loaded())

    def begun(self):
        """A moor for as many, with the same drawings, no row kept and nothing to take back."""
        made = Moor(most=self.most)
        made.drawings = bared(self.drawings)
        return made

    def twin(self):
        """A moor of its own, with the same drawings, rows kept and steps."""
        made = Moor(most=self.most)
        made.drawings = twins(self.drawings)
        made.earlier = list(self.earlier)
        made.later = list(self.later)
        return made

    def __len__(self):
        return len(self.drawings)

    def __eq__(self, other):
        return isinstance(other, Moor) and self.drawings == other.drawings

    def __repr__(self):
        return f"Moor({', '.join(self.names())})"
