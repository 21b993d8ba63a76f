"""Drawings and moors as the document tells them: plain dicts, each refusal reckoned ahead of the deed."""

import copy
from functools import lru_cache

from plain import heat, walk

LETTERS = "abcdefghijklmnopqrstuvwxyz"


@lru_cache(maxsize=None)
def squares_of(stroke):
    return frozenset(walk(stroke))


@lru_cache(maxsize=100000)
def hot_of(pairs):
    """The spots of hot squares, of the rising pairs (name, stroke)."""
    return frozenset(spot for spot, cause in heat(dict(pairs)))


class Refusal(Exception):
    def __init__(self, word, **fields):
        Exception.__init__(self, word)
        self.due = {"word": word, **fields}


def refuse(when, word, **fields):
    if when:
        raise Refusal(word, **fields)


def bad_name(name):
    return not 0 < len(name) < 7 or bool(set(name) - set(LETTERS))


def need_stroke(stroke):
    for spot in (stroke[:2], stroke[2:]):
        refuse(max(map(abs, spot)) > 40, "BadSpot", spot=spot)
    refuse(stroke[:2] == stroke[2:], "BadStroke", stroke=stroke)


class PlainDrawing:
    def __init__(self):
        self.load = {}
        self.kept = []

    def heap(self):
        return {name: self.load[name][0] for name in sorted(self.load)}

    def hot(self):
        return hot_of(tuple(self.heap().items()))

    def changed(self, name, load):
        """Takes over another load, and lets go what goes through squares that became hot or cold."""
        before, self.load = self.hot(), load
        squares = before ^ self.hot()
        self.kept = [asked for asked in self.kept if asked != name and not squares & squares_of(load[asked][0])]

    def put(self, name, stroke, weight=1):
        refuse(bad_name(name), "BadName", name=name)
        refuse(name in self.load, "Taken", name=name)
        need_stroke(stroke)
        refuse(not -3 <= weight <= 3, "BadWeight", weight=weight)
        refuse(len(self.load) == 16, "Full", most=16)
        self.changed(name, {**self.load, name: (stroke, weight)})

    def need(self, name):
        refuse(name not in self.load, "NoStroke", name=name)

    def out(self, name):
        self.need(name)
        self.changed(name, {other: pair for other, pair in self.load.items() if other != name})

    def move(self, name, end, spot):
        self.need(name)
        refuse(end not in (0, 1), "BadEnd", end=end)
        stroke, weight = self.load[name]
        moved = spot + stroke[2:] if end == 0 else stroke[:2] + spot
        refuse(max(map(abs, spot)) > 40, "BadSpot", spot=spot)
        refuse(moved[:2] == moved[2:], "BadStroke", stroke=moved)
        self.changed(name, {**self.load, name: (moved, weight)})

    def weigh(self, name, weight):
        self.need(name)
        refuse(not -3 <= weight <= 3, "BadWeight", weight=weight)
        self.load[name] = (self.load[name][0], weight)

    def ask(self, name, way="all"):
        self.need(name)
        refuse(way not in ("all", "walk", "halves"), "BadWay", way=way)
        if name not in self.kept:
            self.kept.append(name)


class PlainMoor:
    def __init__(self, most=6):
        self.most = most
        self.drawings = {}
        self.back, self.again = [], []

    def need(self, name):
        refuse(name not in self.drawings, "NoDrawing", name=name)

    def one(self, deed):
        word, name, *rest = deed
        if word == "new":
            refuse(bad_name(name), "BadName", name=name)
            refuse(name in self.drawings, "Taken", name=name)
            refuse(len(self.drawings) == self.most, "Full", most=self.most)
            self.drawings[name] = PlainDrawing()
            return
        self.need(name)
        if word == "wipe":
            del self.drawings[name]
        elif word == "join":
            self.need(rest[0])
            for stroke, pair in sorted(self.drawings[rest[0]].load.items()):
                self.drawings[name].put(stroke, *pair)
        else:
            getattr(self.drawings[name], word)(*rest)

    def together(self, deeds):
        before = copy.deepcopy(self.drawings)
        try:
            for deed in deeds:
                self.one(deed)
        except Refusal:
            self.drawings = before
            raise
        if deeds:
            self.back, self.again = self.back + [before], []

    def step(self, source, target):
        """Goes back or again, from one list of states to the other one."""
        refuse(not source, "NothingLeft")
        target.append(self.drawings)
        self.drawings = copy.deepcopy(source.pop())
        for drawing in self.drawings.values():
            drawing.kept = []

    def undo(self):
        self.step(self.back, self.again)

    def redo(self):
        self.step(self.again, self.back)

    def loads(self):
        return {name: drawing.load for name, drawing in self.drawings.items()}

    def page(self):
        rows = []
        for name in sorted(self.drawings):
            rows.append(" ".join(("drawing", name)))
            for stroke, (numbers, weight) in sorted(self.drawings[name].load.items()):
                rows.append(" ".join(["stroke", stroke] + [str(number) for number in numbers + (weight,)]))
        return "\n".join(rows)
