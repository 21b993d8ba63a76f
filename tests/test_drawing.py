"""Drawings: their deeds and refusals, and that they tell what their strokes as a heap tell."""

import random
import unittest

from dotmoor import drawing as module
from dotmoor import heaps, laying, levels
from dotmoor.drawing import Drawing
from dotmoor.errors import (BadEnd, BadName, BadSpot, BadStroke, BadWay, BadWeight, DotError, Full, Loose, Missing,
                            NoPiece, NoStroke, OnLine, Taken)
from dotmoor.fields import Map
from plain import laid, strokes
from plainloads import box, loaded
from plainmaps import left_of, place_of
from plainmoors import PlainDrawing, Refusal

SIXTEEN = ["a" + letter for letter in "abcdefghijklmnop"]
BAD_NAMES = ["", "abcdefg", "A", "aB", "a b", " a", "a ", "a1", "1", "-", "a-b", "a\n", "_", "abcdef ", "~", "{", "`"]


def drawn(load):
    """A drawing of a dict of pairs (stroke, weight)."""
    told = Drawing()
    for name, (stroke, weight) in load.items():
        told.put(name, stroke, weight=weight)
    return told


def full():
    return drawn({name: (stroke, 1) for name, stroke in zip(SIXTEEN, strokes(61, 16, 8))})


def crossed():
    told = Drawing()
    told.put("b", (0, 0, 2, 1))
    told.put("a", (0, 1, 2, 0), weight=-2)
    return told


def refusal_of(call):
    """The fields of the refusal of a call, None where it is none."""
    try:
        call()
    except (DotError, Missing) as refused:
        assert type(refused).__name__ == refused.word
        return vars(refused)
    return None


class Deeds(unittest.TestCase):
    def refuses(self, kind, due, told, call):
        before = (told.loaded(), told.kept())
        with self.assertRaises(kind) as caught:
            call()
        self.assertEqual(vars(caught.exception), {"word": kind.__name__, **due})
        self.assertEqual((told.loaded(), told.kept()), before)

    def test_bounds(self):
        self.assertEqual((module.MOST, module.HEAVY), (16, 3))

    def test_put(self):
        told = Drawing()
        self.assertIsNone(told.put("b", (0, 0, 2, 1)))
        self.assertIsNone(told.put("a", (0, 1, 2, 0), weight=-3))
        self.assertEqual(told.loaded(), {"a": ((0, 1, 2, 0), -3), "b": ((0, 0, 2, 1), 1)})
        told.put("abcdef", (-40, -40, 40, 40), weight=0)
        told.put("z", (40, -40, 40, 39), weight=3)
        self.assertEqual(told.names(), ["a", "abcdef", "b", "z"])

    def test_put_refused(self):
        told = crossed()
        for name in BAD_NAMES:
            self.refuses(BadName, {"name": name}, told, lambda: told.put(name, (0, 0, 1, 1)))
        self.refuses(Taken, {"name": "a"}, told, lambda: told.put("a", (0, 0, 1, 1)))
        for spot in ((41, 0), (0, -41), (-41, 41), (999999999, 0)):
            self.refuses(BadSpot, {"spot": spot}, told, lambda: told.put("c", spot + (0, 0)))
            self.refuses(BadSpot, {"spot": spot}, told, lambda: told.put("c", (0, 0) + spot))
        self.refuses(BadSpot, {"spot": (41, 1)}, told, lambda: told.put("c", (41, 1, 42, 2)))
        self.refuses(BadStroke, {"stroke": (3, 4, 3, 4)}, told, lambda: told.put("c", (3, 4, 3, 4)))
        for weight in (-4, 4, 999999999):
            self.refuses(BadWeight, {"weight": weight}, told, lambda: told.put("c", (0, 0, 1, 1), weight=weight))

    def test_sixteen_and_one_more(self):
        told = full()
        self.assertEqual(len(told), 16)
        self.refuses(Full, {"most": 16}, told, lambda: told.put("z", (0, 0, 1, 1)))
        told.out("aa")
        told.put("z", (0, 0, 1, 1))
        self.refuses(Full, {"most": 16}, told, lambda: told.put("aa", (0, 0, 1, 1)))

    def test_put_refused_for_several_reasons(self):
        told = full()
        same, far = (1, 1, 1, 1), (0, 41, 0, 41)
        self.refuses(BadName, {"name": "Z"}, told, lambda: told.put("Z", far, weight=9))
        self.refuses(Taken, {"name": "aa"}, told, lambda: told.put("aa", far, weight=9))
        self.refuses(BadSpot, {"spot": (0, 41)}, told, lambda: told.put("z", far, weight=9))
        self.refuses(BadStroke, {"stroke": same}, told, lambda: told.put("z", same, weight=9))
        self.refuses(BadWeight, {"weight": 9}, told, lambda: told.put("z", (0, 0, 1, 1), weight=9))

    def test_out(self):
        told = crossed()
        self.assertIsNone(told.out("b"))
        self.assertEqual(told.loaded(), {"a": ((0, 1, 2, 0), -2)})
        self.refuses(NoStroke, {"name": "b"}, told, lambda: told.out("b"))
        told.out("a")
        self.assertEqual(told.loaded(), {})
        for name in ["a", "z"] + BAD_NAMES:
            self.refuses(NoStroke, {"name": name}, told, lambda: told.out(name))

    def test_move(self):
        told = crossed()
        self.assertIsNone(told.move("a", 0, (5, 5)))
        self.assertEqual(told.stroke_of("a"), (5, 5, 2, 0))
        self.assertIsNone(told.move("a", 1, (-40, 40)))
        self.assertEqual(told.loaded(), {"a": ((5, 5, -40, 40), -2), "b": ((0, 0, 2, 1), 1)})
        told.move("a", 1, (-40, 40))
        self.assertEqual(told.stroke_of("a"), (5, 5, -40, 40))

    def test_move_refused(self):
        told = crossed()
        self.refuses(NoStroke, {"name": "c"}, told, lambda: told.move("c", 7, (99, 99)))
        for end in (-1, 2, 3, -2, 999999999):
            self.refuses(BadEnd, {"end": end}, told, lambda: told.move("a", end, (99, 99)))
        for end in (0, 1):
            self.refuses(BadSpot, {"spot": (41, 0)}, told, lambda: told.move("a", end, (41, 0)))
            self.refuses(BadSpot, {"spot": (0, -41)}, told, lambda: told.move("a", end, (0, -41)))
        self.refuses(BadStroke, {"stroke": (2, 0, 2, 0)}, told, lambda: told.move("a", 0, (2, 0)))
        self.refuses(BadStroke, {"stroke": (0, 1, 0, 1)}, told, lambda: told.move("a", 1, (0, 1)))

    def test_weigh(self):
        told = crossed()
        for weight in range(-3, 4):
            self.assertIsNone(told.weigh("a", weight))
            self.assertEqual(told.weight_of("a"), weight)
        self.assertEqual(told.weight_of("b"), 1)
        for weight in (-4, 4, -999999999):
            self.refuses(BadWeight, {"weight": weight}, told, lambda: told.weigh("a", weight))
            self.refuses(NoStroke, {"name": "c"}, told, lambda: told.weigh("c", weight))

    def test_a_stroke_that_comes_again_has_nothing_of_the_old_one(self):
        told = crossed()
        told.out("a")
        told.put("a", (7, 7, 8, 9))
        self.assertEqual(told.loaded(), {"a": ((7, 7, 8, 9), 1), "b": ((0, 0, 2, 1), 1)})


class Questions(unittest.TestCase):
    def refuses(self, kind, due, call):
        with self.assertRaises(kind) as caught:
            call()
        self.assertEqual(vars(caught.exception), {"word": kind.__name__, **due})

    def test_of_an_empty_one(self):
        told = Drawing()
        self.assertEqual((told.names(), told.heap(), told.loaded(), told.hot(), told.kept()), ([], {}, {}, [], []))
        self.assertEqual((told.pieces(), told.rounds(), told.flow(), told.levels()), ([], 1, {}, [0]))
        self.assertEqual((told.why((0, 0)), told.level_at(place_of(0, 0))), ([], 0))
        self.assertEqual(told.land().counts(), (0, 0, 1, 0))
        self.assertEqual((len(told), repr(told)), (0, "Drawing(0 strokes, 0 hot)"))

    def test_no_stroke(self):
        told = crossed()
        for name in ["c", "ab"] + BAD_NAMES:
            for call in (told.stroke_of, told.weight_of, told.row_of, told.rest_of):
                self.refuses(NoStroke, {"name": name}, lambda: call(name))
            self.refuses(NoStroke, {"name": name}, lambda: told.row_of(name, way="none such"))

    def test_names_rise(self):
        told = full()
        told.out("ab")
        told.put("ab", (0, 0, 9, 9))
        for names in (told.names(), list(told.heap()), list(told.loaded())):
            self.assertEqual(names, SIXTEEN)

    def test_why(self):
        told = crossed()
        self.assertEqual(told.why((1, 1)), [("cross", "a", "b")])
        self.assertEqual(told.why((40, -40)), [])
        for spot in ((41, 0), (0, 41), (-41, 0), (0, -41)):
            self.refuses(BadSpot, {"spot": spot}, lambda: told.why(spot))

    def test_row_of(self):
        told = crossed()
        for way in ("all", "walk", "halves"):
            self.assertEqual(told.twin().row_of("b", way=way), [(0, 0), (1, 1), (2, 1)])
        self.assertEqual(told.twin().row_of("a"), [(0, 1), (1, 1), (2, 0)])
        for way in ("", "All", "both"):
            self.refuses(BadWay, {"way": way}, lambda: told.row_of("a", way=way))

    def test_owners(self):
        told = Drawing()
        told.put("b", (0, 0, 6, 0))
        told.put("a", (4, 0, 2, 0))
        told.put("c", (2, 0, 8, 0))
        self.assertEqual(told.owners(((2, 0), (4, 0))), [("a", -1), ("b", 1), ("c", 1)])
        self.assertEqual(told.owners(((0, 0), (2, 0))), [("b", 1)])
        for piece in (((4, 0), (2, 0)), ((0, 0), (4, 0)), ((0, 0), (0, 0)), ((0, 0), (1, 0)), ((7, 7), (8, 8))):
            self.refuses(NoPiece, {"piece": piece}, lambda: told.owners(piece))
        self.refuses(NoPiece, {"piece": ((0, 0), (1, 0))}, lambda: Drawing().owners(((0, 0), (1, 0))))

    def test_rest(self):
        told = drawn({"a": ((2, 2, 0, 1), 1), "b": ((4, 0, 0, 2), 1), "c": ((3, 2, 3, 0), 1)})
        self.assertEqual(told.rest_of("b"), [(4, 0), (3, 0), (3, 1), (3, 2), (2, 2), (1, 2), (0, 2)])
        self.assertEqual(told.rounds(), 3)
        self.assertEqual(told.kept(), [])

    def test_levels(self):
        told = drawn(loaded(box(0, 0, 6, 1) + box(3, 3, 6, 2)))
        self.assertEqual(told.levels(), [0, 1, 3, 2])
        self.assertEqual(told.level_at(place_of(4, 4)), 3)
        self.refuses(OnLine, {"place": place_of(3, 3)}, lambda: told.level_at(place_of(3, 3)))
        told.weigh("aa", 0)
        for place in (place_of(4, 4), place_of(3, 3)):
            self.refuses(Loose, {"spot": (0, 0)}, lambda: told.level_at(place))
        self.refuses(Loose, {"spot": (0, 0)}, told.levels)
        self.assertEqual(told.flow()[((0, 0), (6, 0))], 0)

    def test_len_and_repr(self):
        told = crossed()
        self.assertEqual((len(told), repr(told)), (2, "Drawing(2 strokes, 5 hot)"))
        told.out("a")
        self.assertEqual((len(told), repr(told), str(told)), (1,) + ("Drawing(1 strokes, 2 hot)",) * 2)
        self.assertEqual(repr(full()), f"Drawing(16 strokes, {len(full().hot())} hot)")

    def test_what_is_told_is_new(self):
        told = crossed()
        told.row_of("b")
        for call in (told.names, told.hot, told.kept, told.pieces, lambda: told.row_of("b"), lambda: told.row_of("a"),
                     lambda: told.why((1, 1)), lambda: told.owners(((1, 1), (2, 0))), lambda: told.rest_of("a")):
            before = list(call())
            call().append("more")
            self.assertEqual(call(), before)
            self.assertIs(type(call()), list)
        for call in (told.heap, told.loaded, told.flow):
            before = dict(call())
            call().clear()
            self.assertEqual(call(), before)
            self.assertIs(type(call()), dict)
        self.assertIs(type(told.land()), Map)
        self.assertIsNot(told.land(), told.land())
        ring = drawn(loaded(box(0, 0, 6, 1)))
        ring.levels().clear()
        self.assertEqual(ring.levels(), [0, 1])

    def test_told_ahead_of_a_deed_stays(self):
        told = crossed()
        before = told.heap(), told.loaded(), told.land(), told.names()
        counts = before[2].counts()
        told.out("a")
        told.weigh("b", 3)
        self.assertEqual((sorted(before[0]), before[1]["b"], before[3]), (["a", "b"], ((0, 0, 2, 1), 1), ["a", "b"]))
        self.assertEqual(before[2].counts(), counts)


class Equal(unittest.TestCase):
    def test_strokes_and_weights_by_names(self):
        one, other = crossed(), Drawing()
        self.assertTrue(one != other)
        self.assertFalse(one == other)
        other.put("a", (0, 1, 2, 0), weight=-2)
        other.put("b", (0, 0, 2, 1))
        self.assertTrue(one == other)
        self.assertFalse(one != other)
        self.assertTrue(Drawing() == Drawing())

    def test_what_makes_unlike(self):
        for deed in (lambda told: told.weigh("a", 2), lambda told: told.move("a", 0, (0, 2)),
                     lambda told: told.out("a"), lambda told: told.put("c", (5, 5, 6, 6)),
                     lambda told: (told.out("a"), told.put("c", (0, 1, 2, 0), weight=-2)),
                     lambda told: (told.out("a"), told.put("a", (2, 0, 0, 1), weight=-2))):
            told = crossed()
            deed(told)
            self.assertFalse(told == crossed())
            self.assertTrue(told != crossed())

    def test_the_way_there_makes_no_difference(self):
        told = crossed()
        told.put("c", (5, 5, 6, 6), weight=3)
        told.move("a", 0, (7, 7))
        self.assertFalse(told == crossed())
        told.out("c")
        told.move("a", 0, (0, 1))
        self.assertTrue(told == crossed())
        self.assertTrue(crossed() == told)
        for name in ("a", "b"):
            told.out(name)
        self.assertTrue(told == Drawing())

    def test_kept_rows_make_no_difference(self):
        one = crossed()
        one.row_of("a")
        self.assertTrue(one == crossed())

    def test_nothing_but_a_drawing(self):
        from dotmoor.moor import Moor
        for told in (Drawing(), crossed()):
            for other in (None, 0, len(told), "", repr(told), told.heap(), told.loaded(), [], (), Moor(), False,
                          told.land(), object()):
                self.assertIs(told == other, False)
                self.assertIs(told != other, True)
                self.assertFalse(other == told)


class Twins(unittest.TestCase):
    def test_it_is_equal_with_the_same_rows_kept(self):
        told = crossed()
        told.row_of("b")
        told.row_of("a")
        other = told.twin()
        self.assertIs(type(other), Drawing)
        self.assertIsNot(other, told)
        self.assertTrue(other == told)
        self.assertEqual(other.kept(), ["b", "a"])

    def test_each_stands_for_itself(self):
        told = crossed()
        told.row_of("b")
        other = told.twin()
        other.row_of("a")
        self.assertEqual((told.kept(), other.kept()), (["b"], ["b", "a"]))
        other.out("a")
        self.assertEqual((told.names(), told.kept(), other.kept()), (["a", "b"], ["b"], []))
        told.weigh("b", 3)
        told.put("c", (9, 9, 8, 8))
        self.assertEqual(other.loaded(), {"b": ((0, 0, 2, 1), 1)})
        other.row_of("b").append("more")
        self.assertEqual(told.row_of("b"), [(0, 0), (1, 1), (2, 1)])
        self.assertEqual(other.row_of("b"), [(0, 0), (2, 1)])

    def test_drawings_made_apart(self):
        one, other = Drawing(), Drawing()
        one.put("a", (0, 0, 1, 1))
        one.row_of("a")
        self.assertEqual((other.names(), other.kept()), ([], []))


class Kept(unittest.TestCase):
    # b stands over a, c and d lie apart from both.
    def led(self):
        told = drawn({"a": ((0, 0, 9, 0), 1), "b": ((2, 4, 2, 1), 1), "c": ((0, 20, 9, 20), 1),
                      "d": ((0, 10, 9, 10), 1)})
        for name in "dacb":
            told.row_of(name)
        return told

    def test_asked_once_and_again_in_each_way(self):
        told = self.led()
        self.assertEqual(told.kept(), ["d", "a", "c", "b"])
        for name in "abcd":
            for way in ("all", "walk", "halves"):
                self.assertEqual(told.row_of(name, way=way), told.twin().row_of(name))
        self.assertEqual(told.kept(), ["d", "a", "c", "b"])

    def test_each_way_keeps(self):
        for way in ("all", "walk", "halves"):
            told = crossed()
            told.row_of("b", way=way)
            self.assertEqual(told.kept(), ["b"])

    def test_a_refused_asking_keeps_nothing(self):
        told = crossed()
        for name, way in (("z", "all"), ("a", "none such"), ("z", "none such")):
            self.assertIsNotNone(refusal_of(lambda: told.row_of(name, way=way)))
        self.assertEqual(told.kept(), [])
        told.row_of("a")
        self.assertEqual(refusal_of(lambda: told.row_of("a", way="no")), {"word": "BadWay", "way": "no"})
        self.assertEqual(told.kept(), ["a"])

    def test_other_questions_keep_nothing(self):
        told = crossed()
        for call in (told.names, told.heap, told.loaded, told.hot, told.pieces, told.rounds, told.land, told.flow,
                     told.kept, told.twin, lambda: told.rest_of("a"), lambda: told.why((0, 0)), lambda: repr(told),
                     lambda: told.owners(((1, 1), (2, 0))), lambda: refusal_of(told.levels)):
            call()
            self.assertEqual(told.kept(), [])

    def test_put(self):
        told = self.led()
        told.put("e", (4, 0, 4, -3))
        self.assertEqual(told.kept(), ["d", "c", "b"])
        told.put("f", (4, 18, 4, 25))
        self.assertEqual(told.kept(), ["d", "b"])
        told.put("g", (30, 30, 31, 31))
        self.assertEqual(told.kept(), ["d", "b"])

    def test_put_where_all_is_hot_already(self):
        told = self.led()
        told.put("e", (9, 0, 9, 10))
        self.assertEqual(told.kept(), ["d", "a", "c", "b"])

    def test_out(self):
        told = self.led()
        told.put("e", (4, -3, 4, 3))
        told.row_of("a")
        self.assertEqual(told.kept(), ["d", "c", "b", "a"])
        told.out("e")
        self.assertEqual(told.kept(), ["d", "c", "b"])
        told.out("d")
        self.assertEqual(told.kept(), ["c", "b"])

    def test_out_where_all_stays_hot(self):
        told = self.led()
        told.put("e", (0, 0, 0, 10))
        told.row_of("e")
        told.out("e")
        self.assertEqual(told.kept(), ["d", "a", "c", "b"])

    def test_move(self):
        told = self.led()
        told.move("b", 1, (2, 0))
        self.assertEqual(told.kept(), ["d", "c"])
        told.row_of("a")
        told.row_of("b")
        told.move("b", 0, (2, 12))
        self.assertEqual(told.kept(), ["c", "a"])

    def test_moved_to_the_spot_where_it_is(self):
        told = self.led()
        told.move("a", 0, (0, 0))
        self.assertEqual(told.kept(), ["d", "c", "b"])
        told.move("c", 1, (9, 20))
        self.assertEqual(told.kept(), ["d", "b"])

    def test_a_square_that_stays_hot_by_another_cause_lets_nothing_go(self):
        told = drawn({"a": ((0, 0, 9, 0), 1), "b": ((4, 0, 4, 5), 1), "c": ((3, 5, 5, 5), 1)})
        told.row_of("a")
        # It ends on a where it did, by another way.
        told.move("b", 1, (5, 5))
        self.assertEqual(told.kept(), ["a"])
        told.move("b", 0, (5, 2))
        self.assertEqual(told.kept(), [])

    def test_weights_let_nothing_go(self):
        told = self.led()
        for name in "abcd":
            told.weigh(name, -2)
        self.assertEqual(told.kept(), ["d", "a", "c", "b"])

    def test_refused_deeds_let_nothing_go(self):
        told = self.led()
        for call in (lambda: told.put("a", (4, 0, 4, -3)), lambda: told.put("e", (4, 0, 4, -3), weight=5),
                     lambda: told.out("e"), lambda: told.move("a", 2, (0, 0)), lambda: told.move("a", 0, (9, 0)),
                     lambda: told.move("a", 0, (99, 0)), lambda: told.weigh("a", 7)):
            self.assertIsNotNone(refusal_of(call))
            self.assertEqual(told.kept(), ["d", "a", "c", "b"])

    def test_let_go_and_asked_again_stands_last(self):
        told = self.led()
        told.move("d", 0, (0, 10))
        told.row_of("d")
        self.assertEqual(told.kept(), ["a", "c", "b", "d"])

    def test_a_told_row_changed_by_the_asker(self):
        told = self.led()
        for time in range(2):
            told.row_of("a").append((7, 7))
            self.assertEqual(told.row_of("a"), [(0, 0), (9, 0)])


class Led(unittest.TestCase):
    """Drawings led on by chance, against a plain one, and against what the strokes as a heap tell."""

    def tells_as_its_heap(self, told, due):
        heap = due.heap()
        self.assertEqual(list(told.heap().items()), list(heap.items()))
        self.assertEqual(list(told.loaded().items()), sorted(due.load.items()))
        self.assertEqual((told.names(), len(told)), (sorted(heap), len(heap)))
        self.assertEqual(told.hot(), sorted(due.hot()))
        self.assertEqual(repr(told), f"Drawing({len(heap)} strokes, {len(due.hot())} hot)")
        rows = laid(heap)
        twin = told.twin()
        for at, name in enumerate(rows):
            self.assertEqual(told.stroke_of(name), heap[name])
            self.assertEqual(told.weight_of(name), due.load[name][1])
            self.assertEqual(twin.row_of(name, way=("all", "walk", "halves")[at % 3]), rows[name])
        for spot in told.hot()[:5] + [(0, 0), (1, -1)]:
            self.assertEqual(told.why(spot), heaps.why(heap, spot))
        self.assertEqual(told.pieces(), laying.pieces(rows))
        for one, other in told.pieces()[:6]:
            self.assertEqual(told.owners((one, other)), sorted(
                [(name, 1) for name, row in rows.items() if (one, other) in zip(row, row[1:])]
                + [(name, -1) for name, row in rows.items() if (other, one) in zip(row, row[1:])]))
        self.lays_and_levels(told, heap, rows, {name: weight for name, (stroke, weight) in due.load.items()})

    def lays_and_levels(self, told, heap, rows, weights):
        resting, rounds = laying.rest(heap)
        self.assertEqual(({name: told.rest_of(name) for name in heap}, told.rounds()), (resting, rounds))
        flow = levels.flows(rows, weights)
        self.assertEqual(list(told.flow().items()), list(flow.items()))
        land = Map(list(flow))
        self.assertEqual((told.land().pieces(), told.land().counts()), (land.pieces(), land.counts()))
        self.assertEqual(self.outcome(told.levels), self.outcome(lambda: levels.levels(land, flow)))
        places = [left_of(*piece) for piece in list(flow)[:2]] + [place_of(0, 0), place_of("1/3", "5/2")]
        for place in places:
            self.assertEqual(self.outcome(lambda: told.level_at(place)),
                             self.outcome(lambda: levels.level_at(flow, place)))

    def outcome(self, call):
        try:
            return call()
        except (DotError, Missing) as refused:
            return vars(refused)

    def deed(self, source, told, names):
        """A deed, most of them good ones."""
        name = source.choice(names)
        there = source.choice(told.names() * 4 + names)
        spots = [(source.choice((41, -50)) if source.random() < 0.02 else source.randint(-6, 6), source.randint(-6, 6))
                 for time in range(2)]
        weight = source.choice((-4, -3, -1, 0, 1, 2, 3, 4) if source.random() < 0.2 else (-1, 1, 2))
        return source.choice([
            ("put", name, spots[0] + spots[1], weight),
            ("put", name, spots[0] + spots[1], weight),
            ("out", name),
            ("move", there, source.choice((0, 1, 0, 1, 0, 1, 2)), spots[0]),
            ("weigh", there, weight),
            ("ask", there, source.choice(("all", "walk", "halves", "none"))),
            ("ask", there, "all"),
            ("ask", there, "walk"),
        ])

    def do(self, told, deed):
        word, name, *rest = deed
        if word == "put":
            return told.put(name, rest[0], weight=rest[1])
        if word == "ask":
            told.row_of(name, way=rest[0])
            return None
        return getattr(told, word)(name, *rest)

    def lead(self, seed, many, names):
        source = random.Random(seed)
        told, due = Drawing(), PlainDrawing()
        for time in range(many):
            deed = self.deed(source, told, names)
            refusal = None
            try:
                getattr(due, deed[0])(*deed[1:])
            except Refusal as refused:
                refusal = refused.due
            self.assertEqual(refusal_of(lambda: self.assertIsNone(self.do(told, deed))), refusal, deed)
            self.assertEqual(told.kept(), due.kept, deed)
            if time % 5 == 0:
                self.tells_as_its_heap(told, due)
            if time % 37 == 0:
                told = told.twin()
        self.tells_as_its_heap(told, due)

    def test_few_names(self):
        for seed in range(12):
            self.lead(seed, 80, ["a", "b", "c", "abcdef", "B"])

    def test_many_names(self):
        for seed in range(3):
            self.lead(seed, 160, SIXTEEN + ["b", "bb", "bbb", "c", "zzzzzz"])

    def test_the_way_there_makes_no_difference(self):
        for seed in range(10):
            load = {name: (stroke, 1) for name, stroke in zip(SIXTEEN, strokes(seed, 9, 5))}
            one, other = drawn(load), Drawing()
            for name in reversed(list(load)):
                other.put(name, (0, 0, 1, 7), weight=3)
                other.row_of(name)
            for name, ((x, y, x2, y2), weight) in load.items():
                other.move(name, 0, (39, 39))
                other.move(name, 1, (x2, y2))
                other.move(name, 0, (x, y))
                other.weigh(name, 1)
                other.row_of(name)
            self.assertTrue(one == other)
            for name in load:
                self.assertEqual(one.row_of(name), other.row_of(name))
            self.assertEqual(one.pieces(), other.pieces())


if __name__ == "__main__":
    unittest.main()
