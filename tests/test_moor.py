"""Moors: their deeds and refusals, several deeds as one step, undo and redo."""

import random
import unittest

from dotmoor import moor as module
from dotmoor.drawing import Drawing
from dotmoor.errors import (BadEnd, BadName, BadSpot, BadStroke, BadWay, BadWeight, DotError, Full, Loose, Missing,
                            NoDrawing, NoStroke, NothingLeft, Taken)
from dotmoor.moor import Moor
from dotmoor.overlay import Over
from plain import strokes
from plainmoors import PlainMoor, Refusal

BAD_NAMES = ["", "abcdefg", "A", "a b", "a1", "a\n", "_"]
SIXTEEN = ["a" + letter for letter in "abcdefghijklmnop"]
SQUARE = (("aa", (0, 0, 6, 0)), ("ab", (6, 0, 6, 6)), ("ac", (6, 6, 0, 6)), ("ad", (0, 6, 0, 0)))
DEEDS = (("new", "a"), ("put", "a", "x", (0, 0, 3, 1), 2), ("put", "a", "y", (0, 1, 3, 0), -1), ("new", "b"),
         ("put", "b", "x", (5, 5, 6, 6), 0), ("move", "a", "x", 1, (4, 4)), ("weigh", "b", "x", 3), ("new", "c"),
         ("join", "c", "b"), ("out", "a", "y"), ("wipe", "b"))
LEFT = {"a": {"x": ((0, 0, 4, 4), 2)}, "c": {"x": ((5, 5, 6, 6), 3)}}


def led(*deeds, most=6):
    told = Moor(most=most)
    for deed in deeds:
        told.do(deed)
    return told


def made():
    """A moor with a crossing in a, kept as y and x, one stroke in b, and c empty."""
    told = led(("new", "b"), ("new", "a"), ("new", "c"), ("put", "a", "x", (0, 0, 2, 1), 2),
               ("put", "a", "y", (0, 1, 2, 0), -1), ("put", "b", "x", (5, 5, 9, 6), 0))
    for name in ("y", "x"):
        told.row_of("a", name)
    return told


def state(told):
    """All that a moor tells of its drawings and steps."""
    return (told.names(), told.depth(), {name: told.drawing(name).loaded() for name in told.names()},
            {name: told.kept(name) for name in told.names()}, repr(told), len(told))


class Refusing(unittest.TestCase):
    def refuses(self, kind, due, told, call):
        before = state(told)
        with self.assertRaises(kind) as caught:
            call()
        self.assertEqual(vars(caught.exception), {"word": kind.__name__, **due})
        self.assertEqual(state(told), before)

    def refuses_deed(self, kind, due, told, deed):
        self.refuses(kind, due, told, lambda: told.do(deed))
        self.refuses(kind, due, told, lambda: told.together([deed]))
        self.refuses(kind, due, told, lambda: told.together((("weigh", "a", "x", 0), deed)))


class Deeds(Refusing):
    def test_an_empty_one(self):
        told = Moor()
        self.assertEqual(state(told), ([], (0, 0), {}, {}, "Moor()", 0))
        self.assertEqual(module.DRAWINGS, 6)

    def test_each_deed(self):
        told = Moor()
        due = [
            {"a": {}},
            {"a": {"x": ((0, 0, 3, 1), 2)}},
            {"a": {"x": ((0, 0, 3, 1), 2), "y": ((0, 1, 3, 0), -1)}},
            {"a": {"x": ((0, 0, 3, 1), 2), "y": ((0, 1, 3, 0), -1)}, "b": {}},
            {"a": {"x": ((0, 0, 3, 1), 2), "y": ((0, 1, 3, 0), -1)}, "b": {"x": ((5, 5, 6, 6), 0)}},
            {"a": {"x": ((0, 0, 4, 4), 2), "y": ((0, 1, 3, 0), -1)}, "b": {"x": ((5, 5, 6, 6), 0)}},
            {"a": {"x": ((0, 0, 4, 4), 2), "y": ((0, 1, 3, 0), -1)}, "b": {"x": ((5, 5, 6, 6), 3)}},
        ]
        for at, deed in enumerate(DEEDS[:7]):
            self.assertIsNone(told.do(deed))
            self.assertEqual({name: told.drawing(name).loaded() for name in told.names()}, due[at])
            self.assertEqual(told.depth(), (at + 1, 0))
        told.do(("out", "a", "y"))
        self.assertEqual(told.drawing("a").names(), ["x"])
        told.do(("wipe", "b"))
        self.assertEqual(told.names(), ["a"])
        told.do(("new", "b"))
        self.assertEqual(len(told.drawing("b")), 0)

    def test_names_rise(self):
        told = led(("new", "b"), ("new", "abc"), ("new", "zzzzzz"), ("new", "a"))
        self.assertEqual((told.names(), len(told)), (["a", "abc", "b", "zzzzzz"], 4))
        self.assertEqual(repr(told), "Moor(a, abc, b, zzzzzz)")

    def test_new_refused(self):
        told = made()
        for name in BAD_NAMES:
            self.refuses_deed(BadName, {"name": name}, told, ("new", name))
        self.refuses_deed(Taken, {"name": "a"}, told, ("new", "a"))

    def test_as_many_drawings_as_may_be_and_one_more(self):
        for most in range(1, 7):
            told = led(*[("new", name) for name in "abcdef"[:most]], most=most)
            self.assertEqual(len(told), most)
            for call in (lambda: told.do(("new", "g")), lambda: told.together([("new", "g")])):
                self.refuses(Full, {"most": most}, told, call)
            self.refuses(Taken, {"name": "a"}, told, lambda: told.do(("new", "a")))
            self.refuses(BadName, {"name": "A"}, told, lambda: told.do(("new", "A")))
            told.do(("wipe", "a"))
            told.do(("new", "g"))
            self.assertEqual(len(told), most)
        six = led(*[("new", name) for name in "abcdef"])
        self.refuses(Full, {"most": 6}, six, lambda: six.do(("new", "g")))

    def test_no_drawing(self):
        told = made()
        for name in ["z"] + BAD_NAMES:
            for deed in (("wipe", name), ("put", name, "", (0, 0, 0, 0), 9), ("out", name, "x"),
                         ("move", name, "x", 9, (99, 99)), ("weigh", name, "x", 9), ("join", name, "a"),
                         ("join", name, "none"), ("join", name, name)):
                self.refuses_deed(NoDrawing, {"name": name}, told, deed)
        self.refuses_deed(NoDrawing, {"name": "z"}, told, ("join", "a", "z"))
        self.refuses_deed(NoDrawing, {"name": ""}, told, ("join", "c", ""))

    def test_refused_as_a_drawing_refuses(self):
        told = made()
        self.refuses_deed(BadName, {"name": "X"}, told, ("put", "a", "X", (0, 0, 0, 0), 9))
        self.refuses_deed(Taken, {"name": "x"}, told, ("put", "a", "x", (0, 0, 0, 0), 9))
        self.refuses_deed(BadSpot, {"spot": (41, 0)}, told, ("put", "a", "z", (41, 0, 41, 0), 9))
        self.refuses_deed(BadSpot, {"spot": (0, -41)}, told, ("put", "a", "z", (0, 0, 0, -41), 9))
        self.refuses_deed(BadStroke, {"stroke": (1, 1, 1, 1)}, told, ("put", "a", "z", (1, 1, 1, 1), 9))
        self.refuses_deed(BadWeight, {"weight": 9}, told, ("put", "a", "z", (1, 1, 2, 1), 9))
        self.refuses_deed(NoStroke, {"name": "z"}, told, ("out", "a", "z"))
        self.refuses_deed(NoStroke, {"name": "y"}, told, ("out", "b", "y"))
        self.refuses_deed(NoStroke, {"name": "z"}, told, ("move", "a", "z", 9, (99, 99)))
        self.refuses_deed(BadEnd, {"end": 9}, told, ("move", "a", "x", 9, (99, 99)))
        self.refuses_deed(BadEnd, {"end": -1}, told, ("move", "a", "x", -1, (1, 1)))
        self.refuses_deed(BadSpot, {"spot": (99, 99)}, told, ("move", "a", "x", 0, (99, 99)))
        self.refuses_deed(BadStroke, {"stroke": (2, 1, 2, 1)}, told, ("move", "a", "x", 0, (2, 1)))
        self.refuses_deed(NoStroke, {"name": "z"}, told, ("weigh", "a", "z", 9))
        self.refuses_deed(BadWeight, {"weight": -4}, told, ("weigh", "a", "x", -4))

    def test_sixteen_strokes_and_one_more(self):
        told = made()
        told.together([("put", "c", name, (0, at, 5, at), 1) for at, name in enumerate(SIXTEEN)])
        self.refuses_deed(Full, {"most": 16}, told, ("put", "c", "z", (0, 0, 1, 1), 1))
        self.refuses_deed(Taken, {"name": "aa"}, told, ("put", "c", "aa", (0, 0, 1, 1), 1))


class Joined(Refusing):
    def test_strokes_with_their_weights(self):
        told = made()
        self.assertIsNone(told.do(("join", "c", "a")))
        self.assertTrue(told.drawing("c") == told.drawing("a"))
        self.assertEqual(told.kept("c"), [])
        self.assertEqual(told.kept("a"), ["y", "x"])
        told.do(("weigh", "c", "x", 0))
        self.assertEqual(told.drawing("a").weight_of("x"), 2)

    def test_an_empty_one(self):
        told = made()
        told.do(("join", "a", "c"))
        self.assertEqual((told.drawing("a").names(), told.kept("a"), told.depth()), (["x", "y"], ["y", "x"], (7, 0)))

    def test_with_itself(self):
        told = made()
        self.refuses_deed(Taken, {"name": "x"}, told, ("join", "a", "a"))
        told.do(("join", "c", "c"))
        self.assertEqual((len(told.drawing("c")), told.depth()), (0, (7, 0)))

    def test_names_taken(self):
        told = made()
        self.refuses_deed(Taken, {"name": "x"}, told, ("join", "a", "b"))
        self.refuses_deed(Taken, {"name": "x"}, told, ("join", "b", "a"))
        told.together([("put", "b", "w", (0, 0, 1, 1), 1), ("out", "b", "x"), ("put", "b", "y", (0, 0, 1, 1), 1)])
        self.refuses_deed(Taken, {"name": "y"}, told, ("join", "a", "b"))

    def test_up_to_sixteen_strokes_and_beyond(self):
        told = led(("new", "a"), ("new", "b"), ("put", "a", "x", (0, 0, 1, 1), 1))
        told.together([("put", "a", name, (0, at, 5, at), 1) for at, name in enumerate(SIXTEEN[:13])])
        told.together([("put", "b", name, (9, 9, 8, 8), 1) for name in ("zc", "za")])
        told.do(("join", "a", "b"))
        self.assertEqual(len(told.drawing("a")), 16)
        told.undo()
        told.do(("put", "b", "zb", (9, 9, 8, 8), 1))
        self.refuses_deed(Full, {"most": 16}, told, ("join", "a", "b"))

    def test_what_is_due_first_by_rising_names(self):
        told = led(("new", "a"), ("new", "b"))
        told.together([("put", "a", name, (0, at, 5, at), 1) for at, name in enumerate(SIXTEEN)])
        told.together([("put", "b", name, (9, 9, 8, 8), 1) for name in ("ab", "b")])
        self.refuses(Taken, {"name": "ab"}, told, lambda: told.do(("join", "a", "b")))
        told.do(("put", "b", "a", (9, 9, 8, 8), 1))
        self.refuses(Full, {"most": 16}, told, lambda: told.do(("join", "a", "b")))

    def test_rows_let_go(self):
        told = led(("new", "a"), ("new", "b"), ("put", "a", "x", (0, 0, 9, 0), 1), ("put", "a", "y", (0, 5, 9, 5), 1),
                   ("put", "b", "u", (4, -2, 4, 2), 1), ("put", "b", "v", (30, 30, 31, 31), 1))
        for name in ("y", "x"):
            told.row_of("a", name)
        told.row_of("b", "v")
        told.do(("join", "a", "b"))
        self.assertEqual((told.kept("a"), told.kept("b")), (["y"], ["v"]))


class Together(Refusing):
    def test_of_none(self):
        told = made()
        told.undo()
        told.row_of("a", "x")
        for none in ([], ()):
            before = state(told)
            self.assertIsNone(told.together(none))
            self.assertEqual(state(told), before)
        self.assertEqual(told.depth(), (5, 1))
        told.redo()
        fresh = Moor()
        fresh.together([])
        self.assertEqual(fresh.depth(), (0, 0))

    def test_of_one(self):
        one, other = made(), made()
        one.do(("out", "a", "x"))
        self.assertIsNone(other.together([("out", "a", "x")]))
        self.assertEqual(state(one), state(other))

    def test_of_several(self):
        told = Moor()
        self.assertIsNone(told.together(list(DEEDS)))
        self.assertEqual(told.depth(), (1, 0))
        self.assertEqual({name: told.drawing(name).loaded() for name in told.names()}, LEFT)
        self.assertTrue(told == led(*DEEDS))
        told.undo()
        self.assertEqual((told.names(), told.depth()), ([], (0, 1)))
        told.redo()
        self.assertTrue(told == led(*DEEDS))

    def test_one_refused_at_each_place(self):
        for at in range(len(DEEDS) + 1):
            told = led(("new", "q"), ("put", "q", "s", (0, 0, 1, 1), 1), ("new", "r"))
            told.undo()
            told.row_of("q", "s")
            for wrong in (("new", "q"), ("out", "none", "x"), ("move", "q", "s", 3, (0, 0))):
                deeds = DEEDS[:at] + (wrong,) + DEEDS[at:]
                before = state(told)
                with self.assertRaises((DotError, Missing)):
                    told.together(deeds)
                self.assertEqual(state(told), before)
                self.assertEqual((told.depth(), told.kept("q")), ((2, 1), ["s"]))
            told.redo()
            self.assertEqual(told.names(), ["q", "r"])

    def test_the_first_refusal_goes_first(self):
        told = made()
        self.refuses(NoStroke, {"name": "q"}, told,
                     lambda: told.together([("weigh", "a", "x", 1), ("out", "a", "q"), ("new", "a")]))

    def test_each_deed_meets_what_those_ahead_left(self):
        told = made()
        told.together([("wipe", "a"), ("new", "a"), ("put", "a", "x", (1, 1, 2, 2), 1), ("move", "a", "x", 0, (0, 0)),
                       ("join", "a", "c"), ("join", "c", "a")])
        self.assertEqual(told.drawing("c").loaded(), {"x": ((0, 0, 2, 2), 1)})
        self.refuses(NoDrawing, {"name": "c"}, told, lambda: told.together([("wipe", "c"), ("join", "a", "c")]))
        full = led(*[("new", name) for name in "abcdef"])
        full.together([("wipe", "a"), ("new", "g")])
        self.refuses(Full, {"most": 6}, full, lambda: full.together([("wipe", "b"), ("new", "h"), ("new", "i")]))

    def test_each_deed_among_several_lets_rows_go(self):
        told = led(("new", "a"), ("put", "a", "x", (0, 0, 9, 0), 1), ("put", "a", "y", (0, 5, 9, 5), 1))
        for name in ("x", "y"):
            told.row_of("a", name)
        # The square becomes hot and cold again within the step.
        told.together([("put", "a", "z", (4, -1, 4, 1), 1), ("out", "a", "z")])
        self.assertEqual(told.kept("a"), ["y"])
        told.together([("weigh", "a", "y", 2), ("move", "a", "y", 0, (0, 5))])
        self.assertEqual(told.kept("a"), [])

    def test_the_handed_list_is_as_it_was(self):
        told, handed = Moor(), list(DEEDS)
        told.together(handed)
        self.assertEqual(handed, list(DEEDS))
        handed.clear()
        told.undo()
        told.redo()
        self.assertTrue(told == led(*DEEDS))


class Steps(Refusing):
    def test_to_both_ends_and_beyond(self):
        told, states = Moor(), []
        for deed in DEEDS:
            states.append(told.twin())
            told.do(deed)
        states.append(told.twin())
        for time in range(2):
            self.refuses(NothingLeft, {}, told, told.redo)
            for at in range(len(DEEDS) - 1, -1, -1):
                self.assertIsNone(told.undo())
                self.assertTrue(told == states[at])
                self.assertEqual(told.depth(), (at, len(DEEDS) - at))
            self.refuses(NothingLeft, {}, told, told.undo)
            for at in range(1, len(DEEDS) + 1):
                self.assertIsNone(told.redo())
                self.assertTrue(told == states[at])
                self.assertEqual(told.depth(), (at, len(DEEDS) - at))

    def test_of_a_new_one(self):
        told = Moor()
        self.refuses(NothingLeft, {}, told, told.undo)
        self.refuses(NothingLeft, {}, told, told.redo)

    def test_a_new_step_behind_undo(self):
        told = led(*DEEDS[:5])
        told.undo()
        told.undo()
        self.assertEqual(told.depth(), (3, 2))
        told.do(("weigh", "a", "x", 0))
        self.assertEqual(told.depth(), (4, 0))
        self.refuses(NothingLeft, {}, told, told.redo)
        told.undo()
        self.assertEqual((told.drawing("a").weight_of("x"), told.depth()), (2, (3, 1)))

    def test_a_refused_step_behind_undo_leaves_redo(self):
        told = led(*DEEDS[:5])
        told.undo()
        self.refuses(Taken, {"name": "a"}, told, lambda: told.do(("new", "a")))
        told.redo()
        self.assertEqual(told.drawing("b").names(), ["x"])

    def test_a_step_that_changes_nothing_is_a_step(self):
        told = made()
        for deed in (("weigh", "a", "x", 2), ("move", "a", "x", 0, (0, 0)), ("join", "a", "c")):
            before = told.twin()
            told.do(deed)
            self.assertTrue(told == before)
            self.assertEqual(told.depth()[0], before.depth()[0] + 1)

    def test_no_row_is_kept_behind_undo_and_redo(self):
        told = made()
        told.row_of("b", "x")
        told.do(("weigh", "b", "x", 1))
        self.assertEqual((told.kept("a"), told.kept("b")), (["y", "x"], ["x"]))
        told.undo()
        self.assertEqual((told.kept("a"), told.kept("b"), told.kept("c")), ([], [], []))
        told.row_of("a", "x")
        told.redo()
        self.assertEqual((told.kept("a"), told.kept("b"), told.kept("c")), ([], [], []))
        told.row_of("b", "x")
        told.undo()
        self.assertEqual((told.kept("a"), told.kept("b")), ([], []))

    def test_a_refused_undo_or_redo_lets_nothing_go(self):
        told = made()
        self.refuses(NothingLeft, {}, told, told.redo)
        self.assertEqual(told.kept("a"), ["y", "x"])
        from dotmoor.pages import page, read_page
        read = read_page(page(told))
        read.row_of("a", "x")
        self.refuses(NothingLeft, {}, read, read.undo)
        self.assertEqual(read.kept("a"), ["x"])

    def test_rows_are_told_right_behind_undo(self):
        told = made()
        told.do(("out", "a", "x"))
        self.assertEqual(told.row_of("a", "y"), [(0, 1), (2, 0)])
        told.undo()
        self.assertEqual(told.row_of("a", "y"), [(0, 1), (1, 1), (2, 0)])
        told.redo()
        self.assertEqual(told.row_of("a", "y"), [(0, 1), (2, 0)])


class Questions(Refusing):
    def test_drawing(self):
        told = made()
        twin = told.drawing("a")
        self.assertIs(type(twin), Drawing)
        self.assertEqual((twin.names(), twin.kept()), (["x", "y"], ["y", "x"]))
        twin.out("x")
        twin.put("q", (0, 0, 9, 9))
        twin.row_of("q")
        self.assertEqual((told.drawing("a").names(), told.kept("a")), (["x", "y"], ["y", "x"]))
        other = told.drawing("b")
        other.row_of("x")
        self.assertEqual(told.kept("b"), [])
        for name in ["z"] + BAD_NAMES:
            self.refuses(NoDrawing, {"name": name}, told, lambda: told.drawing(name))

    def test_row_of(self):
        told = made()
        for way in ("all", "walk", "halves"):
            self.assertEqual(told.row_of("a", "x", way=way), [(0, 0), (1, 1), (2, 1)])
        told.row_of("a", "x").clear()
        self.assertEqual(told.row_of("a", "x"), [(0, 0), (1, 1), (2, 1)])
        self.assertEqual(told.depth(), (6, 0))
        self.refuses(NoDrawing, {"name": "z"}, told, lambda: told.row_of("z", "q", way="no"))
        self.refuses(NoStroke, {"name": "q"}, told, lambda: told.row_of("a", "q", way="no"))
        self.refuses(BadWay, {"way": "no"}, told, lambda: told.row_of("a", "x", way="no"))
        self.refuses(BadWay, {"way": "no"}, told, lambda: told.row_of("b", "x", way="no"))

    def test_kept(self):
        told = made()
        told.kept("a").append("more")
        self.assertEqual((told.kept("a"), told.kept("b"), told.kept("c")), (["y", "x"], [], []))
        told.row_of("b", "x")
        self.assertEqual((told.kept("a"), told.kept("b")), (["y", "x"], ["x"]))
        self.refuses(NoDrawing, {"name": "z"}, told, lambda: told.kept("z"))

    def test_a_deed_to_one_drawing_lets_nothing_go_in_another(self):
        told = made()
        told.do(("put", "b", "y", (0, 0, 2, 0), 1))
        told.do(("wipe", "c"))
        self.assertEqual(told.kept("a"), ["y", "x"])
        told.do(("put", "a", "z", (1, 0, 1, -1), 1))
        self.assertEqual(told.kept("a"), [])

    def test_over(self):
        told = Moor()
        told.together([("new", "a"), ("new", "b"), ("new", "c"), ("new", "d")])
        for name, (x, y, x2, y2) in SQUARE:
            told.do(("put", "a", name, (x, y, x2, y2), 1))
            told.do(("put", "b", name, (x + 3, y + 3, x2 + 3, y2 + 3), 2))
        told.do(("put", "c", "x", (7, 7, 8, 8), 1))
        over = told.over("a", "b")
        self.assertIs(type(over), Over)
        self.assertEqual([over.area(), over.area(way="either"), over.area(way="first")], [18, 126, 54])
        self.assertEqual(told.over("a", "a").area(), 72)
        self.assertEqual(told.over("a", "d").area(way="first"), 72)
        self.assertEqual(told.over("d", "d").land_of().counts(), (0, 0, 1, 0))
        self.refuses(Loose, {"spot": (7, 7)}, told, lambda: told.over("c", "a"))
        self.refuses(Loose, {"spot": (7, 7)}, told, lambda: told.over("a", "c"))
        self.refuses(NoDrawing, {"name": "y"}, told, lambda: told.over("y", "z"))
        self.refuses(NoDrawing, {"name": "z"}, told, lambda: told.over("c", "z"))
        self.refuses(NoDrawing, {"name": "y"}, told, lambda: told.over("y", "a"))

    def test_what_is_told_is_new(self):
        told = made()
        told.names().append("more")
        self.assertEqual(told.names(), ["a", "b", "c"])
        self.assertIs(type(told.depth()), tuple)

    def test_over_stays_behind_deeds(self):
        told = led(("new", "a"), *[("put", "a", name, stroke, 1) for name, stroke in SQUARE])
        over = told.over("a", "a")
        told.do(("wipe", "a"))
        self.assertEqual(over.area(), 72)


class Equal(unittest.TestCase):
    def test_drawings_by_names(self):
        one, other = made(), Moor(most=3)
        self.assertTrue(one != other)
        other.together([("new", "c"), ("new", "b"), ("put", "b", "x", (5, 5, 9, 6), 0), ("new", "a"),
                        ("put", "a", "y", (0, 1, 2, 0), -1), ("put", "a", "x", (0, 0, 2, 1), 2)])
        self.assertTrue(one == other)
        self.assertFalse(one != other)
        self.assertTrue(Moor() == Moor(most=1))

    def test_what_makes_unlike(self):
        for deed in (("new", "d"), ("wipe", "c"), ("out", "b", "x"), ("weigh", "b", "x", 1),
                     ("move", "b", "x", 0, (0, 0)), ("put", "c", "x", (0, 0, 1, 1), 1)):
            told = made()
            told.do(deed)
            self.assertFalse(told == made())
            self.assertTrue(told != made())
            told.undo()
            self.assertTrue(told == made())

    def test_nothing_but_a_moor(self):
        for told in (Moor(), made()):
            for other in (None, 0, len(told), "", repr(told), {}, [], told.names(), Drawing(), False, object(),
                          {name: told.drawing(name) for name in told.names()}):
                self.assertIs(told == other, False)
                self.assertIs(told != other, True)
                self.assertFalse(other == told)


class Twins(unittest.TestCase):
    def test_with_all(self):
        told = made()
        told.do(("wipe", "c"))
        told.undo()
        for name in ("x", "y"):
            told.row_of("a", name)
        twin = told.twin()
        self.assertIs(type(twin), Moor)
        self.assertEqual(state(twin), state(told))
        self.assertEqual((twin.kept("a"), twin.depth()), (["x", "y"], (6, 1)))
        self.assertTrue(twin == told)

    def test_it_is_made_for_as_many(self):
        told = led(("new", "a"), ("new", "b"), most=2).twin()
        with self.assertRaises(Full) as caught:
            told.do(("new", "c"))
        self.assertEqual(caught.exception.most, 2)

    def test_each_stands_for_itself(self):
        told = made()
        told.undo()
        twin = told.twin()
        before = state(told)
        twin.redo()
        twin.do(("weigh", "a", "x", 0))
        twin.row_of("a", "x")
        for time in range(7):
            twin.undo()
        twin.do(("new", "q"))
        self.assertEqual(state(told), before)
        self.assertEqual((twin.names(), twin.depth()), (["q"], (1, 0)))
        told.redo()
        self.assertEqual(told.drawing("b").names(), ["x"])
        while told.depth()[0]:
            told.undo()
        self.assertEqual((told.names(), told.depth()), ([], (0, 6)))
        self.assertEqual((twin.names(), twin.depth()), (["q"], (1, 0)))

    def test_moors_made_apart(self):
        one, other = Moor(), Moor()
        one.do(("new", "a"))
        self.assertEqual((other.names(), other.depth()), ([], (0, 0)))


class Led(unittest.TestCase):
    """Moors led on by chance, against plain ones."""

    def drawing_in(self, source, due):
        """The name of a drawing, of one that is there more often than not."""
        return source.choice(sorted(due.drawings) * 6 + ["a", "b", "c", "D"])

    def stroke_in(self, source, due, name):
        """The name of a stroke, of one that is there more often than not."""
        there = sorted(due.drawings[name].load) if name in due.drawings else []
        return source.choice(there * 4 + ["u", "v", "w", "W"])

    def deed(self, source, due):
        name = self.drawing_in(source, due)
        stroke, fresh = self.stroke_in(source, due, name), source.choice(("u", "v", "w", "x", "y", "z", "W"))
        spot, other = [(source.randint(-9, 9), source.randint(-9, 41 if source.random() < 0.05 else 9))
                       for time in range(2)]
        put = ("put", name, fresh, spot + other, source.choice((-1, 1, 2, 3, 4)))
        move = ("move", name, stroke, source.choice((0, 1, 0, 1, 2)), spot)
        if len(due.drawings) < source.randint(0, 2):
            return ("new", source.choice("abc"))
        if source.random() < 0.1:
            return source.choice([("wipe", name), ("join", name, self.drawing_in(source, due))])
        return source.choice([("new", source.choice(("a", "b", "c", "D"))), put, put, put, move, move,
                              ("out", name, stroke), ("weigh", name, stroke, source.randint(-4, 4))])

    def outcome(self, call):
        try:
            call()
        except (DotError, Missing) as refused:
            return vars(refused)
        except Refusal as refused:
            return refused.due
        return None

    def lead(self, seed, many):
        source = random.Random(seed)
        told, due = Moor(most=2 + seed % 2), PlainMoor(2 + seed % 2)
        for time in range(many):
            chance = source.random()
            if chance < 0.05:
                self.assertEqual(self.outcome(told.undo), self.outcome(due.undo))
            elif chance < 0.1:
                self.assertEqual(self.outcome(told.redo), self.outcome(due.redo))
            elif chance < 0.5:
                name = self.drawing_in(source, due)
                self.ask(told, due, name, self.stroke_in(source, due, name))
            else:
                deeds = [self.deed(source, due) for time in range(source.choice((1, 1, 1, 2, 3)))]
                call = (lambda: told.do(deeds[0])) if len(deeds) == 1 else (lambda: told.together(deeds))
                self.assertEqual(self.outcome(call), self.outcome(lambda: due.together(deeds)), deeds)
            self.same(told, due)
            if time % 31 == 0:
                told = told.twin()

    def ask(self, told, due, name, stroke):
        def asked():
            due.need(name)
            due.drawings[name].ask(stroke)
        self.assertEqual(self.outcome(lambda: told.row_of(name, stroke)), self.outcome(asked))

    def same(self, told, due):
        self.assertEqual(told.names(), sorted(due.drawings))
        self.assertEqual(told.depth(), (len(due.back), len(due.again)))
        for name, drawing in due.drawings.items():
            self.assertEqual(told.kept(name), drawing.kept)
            twin = told.drawing(name)
            self.assertEqual(twin.loaded(), drawing.load)
            self.assertEqual(twin.hot(), sorted(drawing.hot()))
            for stroke in drawing.kept:
                fresh = Drawing()
                for other, (numbers, weight) in drawing.load.items():
                    fresh.put(other, numbers)
                self.assertEqual(twin.row_of(stroke), fresh.row_of(stroke))

    def test_many(self):
        for seed in range(12):
            self.lead(seed, 150)

    def test_all_strokes_of_six_full_drawings(self):
        told = Moor()
        for at, name in enumerate("abcdef"):
            told.together([("new", name)] + [("put", name, stroke, numbers, 1)
                                             for stroke, numbers in zip(SIXTEEN, strokes(at, 16, 40))])
        self.assertEqual([len(told.drawing(name)) for name in told.names()], [16] * 6)
        self.assertEqual(told.depth(), (6, 0))


if __name__ == "__main__":
    unittest.main()
