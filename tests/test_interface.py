"""The interface: each name stands in its own file, with its arguments, their names and their defaults."""

import ast
import unittest
from pathlib import Path

PACKAGE = Path(__file__).resolve().parent.parent / "dotmoor"

FUNCTIONS = {
    "parts.py": {
        "lowest": "over, under=1",
        "plus": "one, other",
        "less": "one, other",
        "times": "one, other",
        "below": "one, other",
        "nearest": "one",
    },
    "spots.py": {
        "is_spot": "spot",
        "turning": "one, two, three",
    },
    "strokes.py": {
        "need_stroke": "stroke",
        "goes": "stroke, spot",
        "squares": "stroke",
        "square_of": "place",
        "meet": "one, other",
    },
    "heaps.py": {
        "causes": "heap",
        "hot": "heap",
        "why": "heap, spot",
    },
    "bends.py": {
        "bent": "stroke, spots, *, way=ALL",
    },
    "laying.py": {
        "rows": "heap, *, way=ALL",
        "pieces": "laid",
        "laid_again": "laid",
        "at_rest": "laid",
        "rest": "heap",
    },
    "turns.py": {
        "around": "spot, others",
    },
    "levels.py": {
        "flows": "laid, weights",
        "level_at": "flow, place",
        "levels": "land, flow",
    },
    "papers.py": {
        "heat_paper": "heap, spot",
        "judge_heat": "heap, spot, paper",
        "bend_paper": "heap, name",
        "judge_bend": "heap, name, rows",
        "row_shown": "rows",
    },
    "pages.py": {
        "page": "moor",
        "read_page": "text, *, most=DRAWINGS",
    },
}
CLASSES = {
    "errors.py": {
        "DotError": "ValueError",
        "BadPart": "DotError",
        "BadSpot": "DotError",
        "BadStroke": "DotError",
        "BadName": "DotError",
        "BadWeight": "DotError",
        "BadEnd": "DotError",
        "BadWay": "DotError",
        "Taken": "DotError",
        "Full": "DotError",
        "Loose": "DotError",
        "OnLine": "DotError",
        "BadText": "DotError",
        "Missing": "LookupError",
        "NoStroke": "Missing",
        "NoDrawing": "Missing",
        "NoField": "Missing",
        "NoPiece": "Missing",
        "NoPoint": "Missing",
        "NothingLeft": "Missing",
    },
}
METHODS = {
    "fields.py": {
        "Map": {
            "__init__": "self, lines",
            "spots": "self",
            "pieces": "self",
            "turned": "self, spot",
            "counts": "self",
            "rim": "self, number",
            "holes": "self, number",
            "area": "self, number",
            "beside": "self, one, other",
            "field_at": "self, place",
        },
    },
    "overlay.py": {
        "Over": {
            "__init__": "self, first, other",
            "land_of": "self",
            "levels_of": "self, number",
            "area": "self, *, way=BOTH",
        },
    },
    "drawing.py": {
        "Drawing": {
            "__init__": "self",
            "put": "self, name, stroke, *, weight=1",
            "out": "self, name",
            "move": "self, name, end, spot",
            "weigh": "self, name, weight",
            "names": "self",
            "stroke_of": "self, name",
            "weight_of": "self, name",
            "heap": "self",
            "loaded": "self",
            "hot": "self",
            "why": "self, spot",
            "row_of": "self, name, *, way=ALL",
            "kept": "self",
            "pieces": "self",
            "owners": "self, piece",
            "rest_of": "self, name",
            "rounds": "self",
            "land": "self",
            "flow": "self",
            "levels": "self",
            "level_at": "self, place",
            "twin": "self",
            "__len__": "self",
            "__eq__": "self, other",
            "__repr__": "self",
        },
    },
    "moor.py": {
        "Moor": {
            "__init__": "self, *, most=DRAWINGS",
            "do": "self, deed",
            "together": "self, deeds",
            "undo": "self",
            "redo": "self",
            "depth": "self",
            "names": "self",
            "drawing": "self, name",
            "row_of": "self, name, stroke, *, way=ALL",
            "kept": "self, name",
            "over": "self, name, other",
            "twin": "self",
            "__len__": "self",
            "__eq__": "self, other",
            "__repr__": "self",
        },
    },
}
VALUES = {
    "spots.py": {"FAR": "40"},
    "bends.py": {"ALL": "'all'", "WALK": "'walk'", "HALVES": "'halves'"},
    "overlay.py": {"BOTH": "'both'"},
    "drawing.py": {"MOST": "16", "HEAVY": "3"},
    "moor.py": {"DRAWINGS": "6"},
}


def statements(file):
    return ast.parse((PACKAGE / file).read_text(encoding="utf-8")).body


class Interface(unittest.TestCase):
    def test_functions(self):
        for file, functions in FUNCTIONS.items():
            found = {s.name: ast.unparse(s.args) for s in statements(file) if isinstance(s, ast.FunctionDef)}
            for name, arguments in functions.items():
                with self.subTest(file=file, name=name):
                    self.assertEqual(found.get(name), arguments)

    def test_classes(self):
        for file, classes in CLASSES.items():
            found = {s.name: s.bases for s in statements(file) if isinstance(s, ast.ClassDef)}
            for name, base in classes.items():
                with self.subTest(file=file, name=name):
                    self.assertEqual([ast.unparse(b) for b in found.get(name, [])], [base])

    def test_methods_stand_in_their_class_itself(self):
        for file, classes in METHODS.items():
            found = {s.name: s.body for s in statements(file) if isinstance(s, ast.ClassDef)}
            for name, methods in classes.items():
                told = {s.name: ast.unparse(s.args) for s in found.get(name, []) if isinstance(s, ast.FunctionDef)}
                for method, arguments in methods.items():
                    with self.subTest(file=file, name=name, method=method):
                        self.assertEqual(told.get(method), arguments)

    def test_values(self):
        for file, values in VALUES.items():
            found = {ast.unparse(s.targets[0]): ast.unparse(s.value)
                     for s in statements(file) if isinstance(s, ast.Assign)}
            for name, value in values.items():
                with self.subTest(file=file, name=name):
                    self.assertEqual(found.get(name), value)


if __name__ == "__main__":
    unittest.main()
