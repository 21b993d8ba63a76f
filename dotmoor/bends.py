"""Bends: the spots through whose squares a stroke goes, found in three ways that tell the same."""

from dotmoor.errors import BadWay
from dotmoor.strokes import goes, heading, passes, squares

ALL = "all"
WALK = "walk"
HALVES = "halves"


def need_way(way):
    """None of one of the three ways, else BadWay."""
    if way not in (ALL, WALK, HALVES):
        raise BadWay(way)


def bent(stroke, spots, *, way=ALL):
    """Those of the unlike spots through whose squares the stroke goes, in order along it; BadWay."""
    need_way(way)
    if way == WALK:
        return walked(stroke, {spot: True for spot in spots})
    if way == HALVES:
        return halved(stroke, spots)
    return sifted(stroke, spots)


def sifted(stroke, spots):
    """Bent by asking for all spots."""
    right, upward = heading(stroke)
    # From each square to the next the stroke goes ahead in x, in y or in both, and never back.
    return sorted([spot for spot in spots if goes(stroke, spot)], key=lambda spot: right * spot[0] + upward * spot[1])


def walked(stroke, known):
    """Bent by a walk along the stroke, of spots that are the keys of a dict."""
    return [spot for spot in squares(stroke) if spot in known]


def halved(stroke, spots):
    """Bent by halving the spots, and leaving a half as soon as the stroke passes it by."""
    if len(spots) == 0:
        return []
    across, up = [x for x, y in spots], [y for x, y in spots]
    least, greatest = (min(across), min(up)), (max(across), max(up))
    if not passes(stroke, least, greatest):
        return []
    if least == greatest:
        return list(spots)
    side = 0 if greatest[0] - least[0] >= greatest[1] - least[1] else 1
    middle = (least[side] + greatest[side]) // 2
    lower = halved(stroke, [spot for spot in spots if spot[side] <= middle])
    upper = halved(stroke, [spot for spot in spots if spot[side] > middle])
    return upper + lower if heading(stroke)[side] < 0 else lower + upper
