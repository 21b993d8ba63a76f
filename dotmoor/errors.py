"""The refusals of Dotmoor.

DotError stands above those for a wrong value, Missing above those for what is not there. Each refusal
bears `word`, the name of its class, and what it was told, as it was handed in.
"""


class DotError(ValueError):
    """A value is refused."""

    def __init__(self, word="DotError", message="refused"):
        ValueError.__init__(self, message)
        self.word = word


class BadPart(DotError):
    """A part would have 0 under."""

    def __init__(self):
        DotError.__init__(self, "BadPart", "a part has no 0 under")


class BadSpot(DotError):
    """A pair of numbers is no spot."""

    def __init__(self, spot):
        DotError.__init__(self, "BadSpot", f"{spot} is no spot")
        self.spot = spot


class BadStroke(DotError):
    """The ends of a stroke are alike."""

    def __init__(self, stroke):
        DotError.__init__(self, "BadStroke", f"both ends of {stroke} are alike")
        self.stroke = stroke


class BadName(DotError):
    """A text is no name."""

    def __init__(self, name):
        DotError.__init__(self, "BadName", f"{name!r} is no name")
        self.name = name


class BadWeight(DotError):
    """A number is no weight."""

    def __init__(self, weight):
        DotError.__init__(self, "BadWeight", f"{weight} is no weight")
        self.weight = weight


class BadEnd(DotError):
    """A number is no end of a stroke."""

    def __init__(self, end):
        DotError.__init__(self, "BadEnd", f"{end} is no end, 0 and 1 are")
        self.end = end


class BadWay(DotError):
    """A text is none of the ways."""

    def __init__(self, way):
        DotError.__init__(self, "BadWay", f"{way!r} is no way")
        self.way = way


class Taken(DotError):
    """A name is in use already."""

    def __init__(self, name):
        DotError.__init__(self, "Taken", f"{name!r} is in use already")
        self.name = name


class Full(DotError):
    """There are as many as there may be."""

    def __init__(self, most):
        DotError.__init__(self, "Full", f"there are {most} already")
        self.most = most


class Loose(DotError):
    """Weights do not come out at a spot."""

    def __init__(self, spot):
        DotError.__init__(self, "Loose", f"weights do not come out at {spot}")
        self.spot = spot


class OnLine(DotError):
    """A place lies on a piece."""

    def __init__(self, place):
        DotError.__init__(self, "OnLine", f"{place} lies on a piece")
        self.place = place


class BadText(DotError):
    """A row of a text is not as a page has it."""

    def __init__(self, at):
        DotError.__init__(self, "BadText", f"row {at} is not as a page has it")
        self.at = at


class Missing(LookupError):
    """Something asked for is not there."""

    def __init__(self, word="Missing", message="not there"):
        LookupError.__init__(self, message)
        self.word = word


class NoStroke(Missing):
    """There is no stroke of that name."""

    def __init__(self, name):
        Missing.__init__(self, "NoStroke", f"no stroke {name!r}")
        self.name = name


class NoDrawing(Missing):
    """There is no drawing of that name."""

    def __init__(self, name):
        Missing.__init__(self, "NoDrawing", f"no drawing {name!r}")
        self.name = name


class NoField(Missing):
    """There is no field of that number."""

    def __init__(self, number):
        Missing.__init__(self, "NoField", f"no field {number}")
        self.number = number


class NoPiece(Missing):
    """There is no such piece."""

    def __init__(self, piece):
        Missing.__init__(self, "NoPiece", f"no piece {piece}")
        self.piece = piece


class NoPoint(Missing):
    """A spot is none of the map's."""

    def __init__(self, spot):
        Missing.__init__(self, "NoPoint", f"no point {spot}")
        self.spot = spot


class NothingLeft(Missing):
    """There is no step to take back or to do again."""

    def __init__(self):
        Missing.__init__(self, "NothingLeft", "no step is left")
