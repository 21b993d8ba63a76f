"""Two heaps laid over each other: their map, the levels of its fields, and which of them count."""

import random
import unittest

from dotmoor import overlay
from dotmoor.errors import BadWay, Loose, NoField
from dotmoor.fields import Map
from dotmoor.overlay import Over
from plain import laid
from plainloads import box, even_loads, heavy_loads, loaded, rings
from plainmaps import PlainMap, flow_of, level, loose

WAYS = ("both", "either", "one", "first")
LOW, HIGH = loaded(box(0, 0, 6, 1)), loaded(box(3, 3, 6, 2))
PAIRS = [(rings(seed, 1 + seed % 2, 4 + seed % 3), rings(seed + 100, 1 + seed % 3, 4 + seed % 3)) for seed in range(30)]


def turned(load):
    return {name: (stroke[2:] + stroke[:2], weight) for name, (stroke, weight) in load.items()}


class Plain:
    """Two loads laid over each other, as the document tells it."""

    def __init__(self, first, other):
        strokes = {(0, name): pair for name, pair in first.items()}
        strokes.update({(1, name): pair for name, pair in other.items()})
        rows = laid({name: stroke for name, (stroke, weight) in strokes.items()})
        flows = [flow_of(rows, {name: weight if name[0] == which else 0 for name, (stroke, weight) in strokes.items()})
                 for which in (0, 1)]
        self.land = PlainMap(list(flows[0]))
        self.levels = [tuple(level(flow, self.land.place_in(number)) for flow in flows)
                       for number in range(len(self.land.outers))]

    def area(self, way):
        counted = {
            "both": lambda one, other: one != 0 and other != 0,
            "either": lambda one, other: one != 0 or other != 0,
            "one": lambda one, other: (one != 0) + (other != 0) == 1,
            "first": lambda one, other: one != 0 and other == 0,
        }[way]
        return sum(self.land.area(number) for number, pair in enumerate(self.levels) if counted(*pair))


class Written(unittest.TestCase):
    def areas(self, first, other, due):
        over = Over(first, other)
        self.assertEqual({way: over.area(way=way) for way in WAYS}, dict(zip(WAYS, due)))
        self.assertEqual(over.area(), due[0])

    def test_both_is_the_way_left_out(self):
        self.assertEqual(overlay.BOTH, "both")

    def test_two_squares(self):
        over = Over(LOW, HIGH)
        self.assertEqual(over.land_of().counts(), (10, 12, 4, 1))
        self.assertEqual([over.levels_of(number) for number in range(4)], [(0, 0), (1, 0), (1, 2), (0, 2)])
        self.areas(LOW, HIGH, (18, 126, 108, 54))
        self.areas(HIGH, LOW, (18, 126, 108, 54))

    def test_one_within_the_other(self):
        self.areas(loaded(box(0, 0, 9, -1)), loaded(box(2, 2, 3, 3)), (18, 162, 144, 144))
        self.areas(loaded(box(2, 2, 3, 3)), loaded(box(0, 0, 9, -1)), (18, 162, 144, 0))

    def test_apart(self):
        self.areas(loaded(box(0, 0, 2, 1)), loaded(box(9, 9, 3, 1)), (0, 26, 26, 8))

    def test_the_same_twice(self):
        self.areas(LOW, LOW, (72, 72, 0, 0))
        over = Over(LOW, LOW)
        self.assertEqual([over.levels_of(number) for number in (0, 1)], [(0, 0), (1, 1)])

    def test_one_turned_about(self):
        self.areas(LOW, turned(LOW), (72, 72, 0, 0))
        self.assertEqual(Over(LOW, turned(LOW)).levels_of(1), (1, -1))
        self.assertEqual(Over(turned(HIGH), HIGH).levels_of(1), (-2, 2))

    def test_one_or_both_empty(self):
        self.areas(LOW, {}, (0, 72, 72, 72))
        self.areas({}, LOW, (0, 72, 72, 0))
        self.areas({}, {}, (0, 0, 0, 0))
        self.assertEqual(Over({}, {}).land_of().counts(), (0, 0, 1, 0))
        self.assertEqual(Over({}, {}).levels_of(0), (0, 0))

    def test_weights_of_nought_bend_but_do_not_count(self):
        self.areas(LOW, loaded(box(3, 3, 6, 0)), (0, 72, 72, 72))
        self.assertEqual(Over(LOW, loaded(box(3, 3, 6, 0))).land_of().counts()[2], 4)

    def test_levels_that_come_to_nought_do_not_count(self):
        self.areas(loaded(box(0, 0, 6, 1) + box(0, 0, 6, -1)), HIGH, (0, 72, 72, 0))

    def test_names_tell_nothing(self):
        due = [Over(LOW, HIGH).area(way=way) for way in WAYS]
        for names in (["", "1", "2", "12"], ["2", "1", "", "~"], ["both", "first", "a b", "1a"]):
            one = dict(zip(names, LOW.values()))
            for other in (HIGH, dict(zip(names, HIGH.values())), dict(zip(names[::-1], HIGH.values()))):
                over = Over(one, other)
                self.assertEqual([over.area(way=way) for way in WAYS], due)
                self.assertEqual(over.levels_of(2), (1, 2))

    def test_names_of_one_that_look_like_the_other_s(self):
        one = {"1a": LOW["aa"], "a": LOW["ab"], "2a": LOW["ac"], "": LOW["ad"]}
        other = {"1a": HIGH["aa"], "a": HIGH["ab"], "2a": HIGH["ac"], "": HIGH["ad"]}
        self.assertEqual(Over(one, other).area(), 18)


class Many(unittest.TestCase):
    def test_against_a_plain_reckoning(self):
        for first, other in PAIRS + [(load, load) for load in even_loads()[:8]]:
            over, due = Over(first, other), Plain(first, other)
            self.assertEqual(over.land_of().pieces(), due.land.lines)
            self.assertEqual([over.levels_of(number) for number in range(len(due.levels))], due.levels)
            for way in WAYS:
                self.assertEqual(over.area(way=way), due.area(way), (first, other, way))

    def test_the_areas_of_the_ways(self):
        for first, other in PAIRS:
            told = {way: Over(first, other).area(way=way) for way in WAYS}
            back = {way: Over(other, first).area(way=way) for way in WAYS}
            self.assertEqual(told["either"], told["both"] + told["one"])
            self.assertEqual(told["one"], told["first"] + back["first"])
            self.assertEqual([told[way] for way in WAYS[:3]], [back[way] for way in WAYS[:3]])


class Refused(unittest.TestCase):
    def refuses(self, kind, due, call):
        with self.assertRaises(kind) as caught:
            call()
        self.assertEqual(vars(caught.exception), {"word": kind.__name__, **due})

    def test_other_ways(self):
        for over in (Over(LOW, HIGH), Over({}, {})):
            for way in ("", "Both", "other", "second", "all", "one "):
                self.refuses(BadWay, {"way": way}, lambda: over.area(way=way))

    def test_no_field(self):
        over = Over(LOW, HIGH)
        for number in (-1, -4, 4, 5, 999999999):
            self.refuses(NoField, {"number": number}, lambda: over.levels_of(number))
        self.refuses(NoField, {"number": 1}, lambda: Over({}, {}).levels_of(1))

    def test_loose(self):
        open_one = {"a": ((5, 5, 9, 9), 1)}
        open_other = {"a": ((-5, 5, 9, 9), 2)}
        self.refuses(Loose, {"spot": (5, 5)}, lambda: Over(open_one, LOW))
        self.refuses(Loose, {"spot": (-5, 5)}, lambda: Over(LOW, open_other))
        self.refuses(Loose, {"spot": (5, 5)}, lambda: Over(open_one, open_other))
        self.refuses(Loose, {"spot": (-5, 5)}, lambda: Over(open_other, open_one))
        self.refuses(Loose, {"spot": (5, 5)}, lambda: Over(open_one, {}))

    def test_weights_come_out_for_each_of_them(self):
        # Together they would come out.
        there, back = {"a": ((0, 0, 4, 1), 1)}, {"a": ((4, 1, 0, 0), 1)}
        self.refuses(Loose, {"spot": (0, 0)}, lambda: Over(there, back))

    def test_many_loose(self):
        loads = heavy_loads()
        for seed, first in enumerate(loads):
            other = random.Random(seed).choice(loads + even_loads())
            due = loose(first) or loose(other)
            if due is not None:
                self.refuses(Loose, {"spot": due}, lambda: Over(first, other))


class Kept(unittest.TestCase):
    def test_the_handed_dicts_are_as_they_were(self):
        first, other = dict(reversed(list(LOW.items()))), dict(HIGH)
        before = list(first.items()), list(other.items())
        over = Over(first, other)
        self.assertEqual((list(first.items()), list(other.items())), before)
        first.clear()
        other["zz"] = ((0, 0, 30, 30), 3)
        self.assertEqual((over.area(), over.levels_of(2), over.land_of().counts()), (18, (1, 2), (10, 12, 4, 1)))

    def test_the_told_map_is_a_new_one(self):
        over = Over(LOW, HIGH)
        one, other = over.land_of(), over.land_of()
        self.assertIs(type(one), Map)
        self.assertIsNot(one, other)
        one.pieces().clear()
        self.assertEqual(one.pieces(), other.pieces())

    def test_kinds(self):
        over = Over(LOW, HIGH)
        self.assertIs(type(over.levels_of(1)), tuple)
        self.assertIs(type(over.area()), int)

    def test_by_names_and_way_by_its_name_alone(self):
        over = Over(other=HIGH, first=LOW)
        self.assertEqual(over.levels_of(number=1), (1, 0))
        self.assertEqual(over.area(way="first"), 54)
        with self.assertRaises(TypeError):
            over.area("first")


if __name__ == "__main__":
    unittest.main()
