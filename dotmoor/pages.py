"""Pages: moors as texts, and the texts that are such pages."""

from dotmoor.errors import BadText, DotError
from dotmoor.moor import DRAWINGS, Moor

FIGURES = "0123456789"
# Each number with more is refused in any case, and Python reads very long ones only up to a bound of its own.
MOST_FIGURES = 9


def page(moor):
    """The page of a moor."""
    lines = []
    for name in moor.names():
        lines.append(f"drawing {name}")
        for stroke, (numbers, weight) in moor.drawing(name).loaded().items():
            x1, y1, x2, y2 = numbers
            lines.append(f"stroke {stroke} {x1} {y1} {x2} {y2} {weight}")
    return "\n".join(lines)


def is_number(word):
    """True of figures without a needless nought, with - ahead of those of a number below 0."""
    figures = word.removeprefix("-")
    if not 1 <= len(figures) <= MOST_FIGURES or any([figure not in FIGURES for figure in figures]):
        return False
    return word == "0" or figures[0] != "0"


def deed_of(line, drawing):
    """The deed that a row tells behind the row of that drawing ("" ahead of the first one), None of a wrong row."""
    words = line.split(" ")
    if words[0] == "drawing" and len(words) == 2:
        return ("new", words[1])
    if words[0] != "stroke" or len(words) != 7 or drawing == "":
        return None
    if not all([is_number(word) for word in words[2:]]):
        return None
    x1, y1, x2, y2, weight = [int(word) for word in words[2:]]
    return ("put", drawing, words[1], (x1, y1, x2, y2), weight)


def follow(moor, at, line, ahead):
    """Does to a moor what row number at of a page tells; BadText.

    Ahead are the names of the last drawing and of its last stroke, "" where there is none; told are the new ones.
    """
    deed = deed_of(line, ahead[0])
    if deed is None:
        raise BadText(at)
    # A stroke stands behind a row of its own drawing, and each name is above "": so one order serves both kinds.
    risen = (deed[1], "") if deed[0] == "new" else (deed[1], deed[2])
    if risen <= ahead:
        raise BadText(at)
    try:
        moor.do(deed)
    except DotError:
        raise BadText(at) from None
    return risen


def read_page(text, *, most=DRAWINGS):
    """The moor, made for so many drawings, of which the text is the page; BadText."""
    read = Moor(most=most)
    ahead = ("", "")
    lines = [] if text == "" else text.split("\n")
    for at, line in enumerate(lines):
        ahead = follow(read, at, line, ahead)
    return read.begun()
