"""Each call of the interface by keywords, with what stands behind * by its name alone, and with defaults left out."""

import inspect
import unittest

from dotmoor import bends, errors, fields, heaps, laying, levels, overlay, pages, papers, parts, spots, strokes, turns
from dotmoor.drawing import Drawing
from dotmoor.moor import Moor

HEAP = {"a": (0, 1, 2, 0), "b": (0, 0, 2, 1)}
LAID = {"a": [(0, 1), (1, 1), (2, 0)], "b": [(0, 0), (1, 1), (2, 1)]}
PIECES = [((0, 0), (1, 1)), ((0, 1), (1, 1)), ((1, 1), (2, 0)), ((1, 1), (2, 1))]
EVEN = {((0, 0), (4, 0)): 2, ((0, 0), (0, 4)): -2, ((0, 4), (4, 0)): -2}
LOADED = {"a": ((0, 0, 4, 0), 1), "b": ((4, 0, 0, 4), 1), "c": ((0, 4, 0, 0), 1)}
HALF, MIDDLE = (1, 2), ((1, 1), (1, 1))
TWO_DRAWINGS = [("new", "a"), ("new", "b"), ("put", "a", "x", (0, 1, 2, 0), 1), ("put", "a", "y", (0, 0, 2, 1), 1)]

FUNCTIONS = [
    (parts.lowest, {"over": 6, "under": -4}, (-3, 2)),
    (parts.lowest, {"over": 6}, (6, 1)),
    (parts.plus, {"one": HALF, "other": (1, 3)}, (5, 6)),
    (parts.less, {"one": HALF, "other": (1, 3)}, (1, 6)),
    (parts.times, {"one": HALF, "other": (1, 3)}, (1, 6)),
    (parts.below, {"one": HALF, "other": (1, 3)}, False),
    (parts.nearest, {"one": HALF}, 1),
    (spots.is_spot, {"spot": (40, 41)}, False),
    (spots.turning, {"one": (0, 0), "two": (1, 0), "three": (1, 1)}, 1),
    (strokes.need_stroke, {"stroke": (0, 0, 1, 1)}, None),
    (strokes.goes, {"stroke": (0, 0, 2, 2), "spot": (1, 1)}, True),
    (strokes.squares, {"stroke": (0, 0, 2, 0)}, [(0, 0), (1, 0), (2, 0)]),
    (strokes.square_of, {"place": (HALF, HALF)}, (1, 1)),
    (strokes.meet, {"one": (0, 0, 2, 0), "other": (1, 0, 3, 0)}, ("along", (1, 0), (2, 0))),
    (heaps.causes, {"heap": {"a": (0, 0, 1, 1)}}, [((0, 0), ("end", "a", 0)), ((1, 1), ("end", "a", 1))]),
    (heaps.hot, {"heap": {"a": (0, 0, 1, 1)}}, [(0, 0), (1, 1)]),
    (heaps.why, {"heap": HEAP, "spot": (1, 1)}, [("cross", "a", "b")]),
    (bends.bent, {"stroke": (2, 0, 0, 0), "spots": [(1, 0), (2, 0)]}, [(2, 0), (1, 0)]),
    (bends.bent, {"stroke": (2, 0, 0, 0), "spots": [(1, 0), (2, 0)], "way": "walk"}, [(2, 0), (1, 0)]),
    (laying.rows, {"heap": HEAP}, LAID),
    (laying.rows, {"heap": HEAP, "way": "halves"}, LAID),
    (laying.pieces, {"laid": LAID}, PIECES),
    (laying.laid_again, {"laid": {"a": [(0, 0), (2, 1)]}}, {"a": [(0, 0), (2, 1)]}),
    (laying.at_rest, {"laid": {"a": [(0, 0), (2, 1)]}}, True),
    (laying.rest, {"heap": {"a": (0, 0, 2, 1)}}, ({"a": [(0, 0), (2, 1)]}, 1)),
    (turns.around, {"spot": (0, 0), "others": [(-1, 0), (1, 0)]}, [(1, 0), (-1, 0)]),
    (levels.flows, {"laid": {"a": [(1, 0), (0, 0)]}, "weights": {"a": 3}}, {((0, 0), (1, 0)): -3}),
    (levels.level_at, {"flow": EVEN, "place": MIDDLE}, 2),
    (levels.levels, {"land": fields.Map(list(EVEN)), "flow": EVEN}, [0, 2]),
    (papers.heat_paper, {"heap": HEAP, "spot": (1, 1)}, ("cross", "a", "b")),
    (papers.judge_heat, {"heap": HEAP, "spot": (1, 1), "paper": ("cold", ("a",))}, False),
    (papers.bend_paper, {"heap": {"a": (0, 0, 1, 1)}, "name": "a"},
     [((0, 0), ("end", "a", 0)), ((1, 1), ("end", "a", 1))]),
    (papers.judge_bend, {"heap": HEAP, "name": "a", "rows": []}, 0),
    (papers.row_shown, {"rows": [((0, 0), ("end", "a", 0)), ((1, 0), ("cold", ()))]}, [(0, 0)]),
    (pages.page, {"moor": Moor()}, ""),
    (pages.read_page, {"text": ""}, Moor()),
    (pages.read_page, {"text": "", "most": 1}, Moor()),
]
METHODS = [
    (lambda: fields.Map(lines=PIECES), [
        ("spots", {}, [(0, 0), (0, 1), (1, 1), (2, 0), (2, 1)]),
        ("pieces", {}, PIECES),
        ("turned", {"spot": (1, 1)}, [(2, 1), (0, 1), (0, 0), (2, 0)]),
        ("counts", {}, (5, 4, 1, 1)),
        ("rim", {"number": 0}, []),
        ("holes", {"number": 0}, [[(0, 0), (1, 1), (0, 1), (1, 1), (2, 1), (1, 1), (2, 0), (1, 1)]]),
        ("area", {"number": 0}, 0),
        ("beside", {"one": (0, 0), "other": (1, 1)}, 0),
        ("field_at", {"place": ((7, 1), (7, 1))}, 0),
    ]),
    (lambda: overlay.Over(first=LOADED, other=LOADED), [
        ("levels_of", {"number": 1}, (1, 1)),
        ("area", {}, 16),
        ("area", {"way": "one"}, 0),
    ]),
    (lambda: drawn(), [
        ("put", {"name": "c", "stroke": (0, 0, 5, 5)}, None),
        ("put", {"name": "c", "stroke": (0, 0, 5, 5), "weight": 2}, None),
        ("out", {"name": "a"}, None),
        ("move", {"name": "a", "end": 1, "spot": (3, 3)}, None),
        ("weigh", {"name": "a", "weight": 3}, None),
        ("names", {}, ["a", "b"]),
        ("stroke_of", {"name": "a"}, (0, 1, 2, 0)),
        ("weight_of", {"name": "a"}, 1),
        ("heap", {}, HEAP),
        ("loaded", {}, {name: (stroke, 1) for name, stroke in HEAP.items()}),
        ("hot", {}, [(0, 0), (0, 1), (1, 1), (2, 0), (2, 1)]),
        ("why", {"spot": (1, 1)}, [("cross", "a", "b")]),
        ("row_of", {"name": "a"}, LAID["a"]),
        ("row_of", {"name": "a", "way": "walk"}, LAID["a"]),
        ("kept", {}, []),
        ("pieces", {}, PIECES),
        ("owners", {"piece": ((1, 1), (2, 0))}, [("a", 1)]),
        ("rest_of", {"name": "a"}, [(0, 1), (1, 1), (2, 1), (2, 0)]),
        ("rounds", {}, 2),
        ("flow", {}, {piece: 1 for piece in PIECES}),
    ]),
    (lambda: Drawing(), [("levels", {}, [0]), ("level_at", {"place": MIDDLE}, 0), ("twin", {}, Drawing())]),
    (lambda: led(), [
        ("do", {"deed": ("new", "c")}, None),
        ("together", {"deeds": [("new", "c")]}, None),
        ("undo", {}, None),
        ("depth", {}, (1, 0)),
        ("names", {}, ["a", "b"]),
        ("drawing", {"name": "b"}, Drawing()),
        ("row_of", {"name": "a", "stroke": "x"}, LAID["a"]),
        ("row_of", {"name": "a", "stroke": "x", "way": "halves"}, LAID["a"]),
        ("kept", {"name": "a"}, []),
    ]),
]
BY_NAME_ALONE = [
    lambda: bends.bent((0, 0, 1, 1), [], "all"),
    lambda: laying.rows({}, "all"),
    lambda: overlay.Over({}, {}).area("both"),
    lambda: Drawing().put("a", (0, 0, 1, 1), 1),
    lambda: drawn().row_of("a", "all"),
    lambda: Moor(6),
    lambda: led().row_of("a", "x", "all"),
    lambda: pages.read_page("", 6),
]


def drawn():
    told = Drawing()
    for name, stroke in HEAP.items():
        told.put(name, stroke)
    return told


def led():
    told = Moor(most=3)
    told.together(TWO_DRAWINGS)
    return told


class Calls(unittest.TestCase):
    def test_functions_by_keywords_and_by_place(self):
        for function, named, due in FUNCTIONS:
            with self.subTest(function.__name__):
                self.assertEqual(function(**named), due)
                self.assertEqual(function(**dict(reversed(list(named.items())))), due)
                self.assertEqual(self.by_place(function, named), due)

    def test_methods_by_keywords_and_by_place(self):
        for make, calls in METHODS:
            for method, named, due in calls:
                with self.subTest(method):
                    self.assertEqual(getattr(make(), method)(**named), due)
                    self.assertEqual(self.by_place(getattr(make(), method), named), due)

    def by_place(self, call, named):
        """Calls with all by place but what stands behind *."""
        behind = {name for name, told in inspect.signature(call).parameters.items() if told.kind == told.KEYWORD_ONLY}
        ahead = [worth for name, worth in named.items() if name not in behind]
        return call(*ahead, **{name: worth for name, worth in named.items() if name in behind})

    def test_what_stands_behind_a_star_goes_by_its_name_alone(self):
        for call in BY_NAME_ALONE:
            with self.assertRaises(TypeError):
                call()

    def test_defaults(self):
        self.assertEqual(drawn().weight_of("a"), 1)
        told = Moor()
        told.together([("new", name) for name in "abcdef"])
        with self.assertRaises(errors.Full) as caught:
            told.do(("new", "g"))
        self.assertEqual(caught.exception.most, 6)
        self.assertEqual(overlay.Over(LOADED, {}).area(), 0)

    def test_maps_moors_and_overlays(self):
        self.assertEqual(overlay.Over(first=LOADED, other={}).land_of().counts(), (3, 3, 2, 1))
        self.assertEqual(drawn().land().counts(), (5, 4, 1, 1))
        self.assertEqual(led().over(name="b", other="b").area(way="either"), 0)
        told = led()
        twin = told.twin()
        told.undo()
        self.assertIsNone(told.redo())
        self.assertTrue(told == twin)
        self.assertEqual((len(twin), len(drawn())), (2, 2))


if __name__ == "__main__":
    unittest.main()
