"""Levels: what goes along pieces by the weights of strokes, and the levels of places and fields."""

from dotmoor.errors import Loose, OnLine
from dotmoor.laying import pieces, steps_of
from dotmoor.turns import crossing, lies_on


def flows(laid, weights):
    """What goes along each piece of laid rows from its lesser to its greater spot, pieces rising."""
    found = {piece: 0 for piece in pieces(laid)}
    for name, row in laid.items():
        for one, other in steps_of(row):
            if one < other:
                found[(one, other)] += weights[name]
            else:
                found[(other, one)] -= weights[name]
    return found


def need_even(flow):
    """None where as much comes to each spot as goes from it, else Loose with the least spot where it doesn't."""
    gained = {}
    for (one, other), along in flow.items():
        gained[one] = gained.get(one, 0) - along
        gained[other] = gained.get(other, 0) + along
    loose = [spot for spot, gain in gained.items() if gain != 0]
    if len(loose) > 0:
        raise Loose(min(loose))


def level_at(flow, place):
    """The level of a place that lies on no piece; Loose, OnLine."""
    need_even(flow)
    if any([lies_on(one, other, place) for one, other in flow]):
        raise OnLine(place)
    return sum([along * crossing(one, other, place) for (one, other), along in flow.items()])


def doors(land, flow):
    """For each field of a map the pairs (field beside it, how much higher that one is), a pair for each piece."""
    found = {number: [] for number in range(land.counts()[2])}
    for (one, other), along in flow.items():
        left, right = land.beside(one, other), land.beside(other, one)
        found[right].append((left, along))
        found[left].append((right, -along))
    return found


def levels(land, flow):
    """The levels of the fields of a map, by number; Loose."""
    need_even(flow)
    ways = doors(land, flow)
    known = {0: 0}
    left = [0]
    while len(left) > 0:
        here = left.pop()
        for there, rise in ways[here]:
            if there not in known:
                known[there] = known[here] + rise
                left.append(there)
    return [known[number] for number in sorted(known)]
