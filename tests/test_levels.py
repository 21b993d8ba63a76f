"""Levels: what goes along pieces, and the levels of places and of fields."""

import random
import unittest
from fractions import Fraction

from dotmoor.errors import Loose, OnLine
from dotmoor.fields import Map
from dotmoor.laying import pieces, rest, rows
from dotmoor.levels import flows, level_at, levels
from plain import laid
from plainloads import box, even_loads, heap_of, heavy_loads, loaded, weights_of
from plainmaps import PlainMap, flow_of, left_of, level, loose, place_of

TRIANGLE = {"a": [(0, 0), (4, 0)], "b": [(4, 0), (0, 4)], "c": [(0, 4), (0, 0)]}
EVEN = {"a": 2, "b": 2, "c": 2}
INSIDE, OUTSIDE, RIM, CORNER = place_of(1, 1), place_of(3, 3), place_of(2, 2), place_of(0, 0)


def flow_of_load(load):
    return flows(rows(heap_of(load)), weights_of(load))


class Flows(unittest.TestCase):
    def test_none(self):
        self.assertEqual(flows({}, {}), {})
        self.assertEqual(flows({"a": []}, {"a": 3}), {})
        self.assertEqual(flows({"a": [(1, 1)]}, {"a": 3}), {})

    def test_there_and_back(self):
        handed = {"a": [(0, 0), (1, 0), (2, 1)], "b": [(2, 1), (1, 0)], "c": [(0, 0), (1, 0)]}
        told = flows(handed, {"a": 3, "b": 1, "c": 5})
        self.assertEqual(told, {((0, 0), (1, 0)): 8, ((1, 0), (2, 1)): 2})

    def test_weights_that_come_to_nought(self):
        handed = {"a": [(0, 0), (1, 0)], "b": [(1, 0), (0, 0)], "c": [(0, 1), (5, 5)]}
        self.assertEqual(flows(handed, {"a": 2, "b": 2, "c": 0}), {((0, 0), (1, 0)): 0, ((0, 1), (5, 5)): 0})
        self.assertEqual(flows(handed, {"a": 2, "b": -2, "c": -7}), {((0, 0), (1, 0)): 4, ((0, 1), (5, 5)): -7})

    def test_from_the_lesser_to_the_greater_spot(self):
        self.assertEqual(flows({"a": [(2, 0), (1, 9)]}, {"a": 3}), {((1, 9), (2, 0)): -3})
        self.assertEqual(flows({"a": [(1, 5), (1, 2)]}, {"a": 3}), {((1, 2), (1, 5)): -3})
        self.assertEqual(flows({"a": [(-1, 5), (0, 2)]}, {"a": -3}), {((-1, 5), (0, 2)): -3})

    def test_pieces_rising(self):
        handed = {"b": [(9, 9), (3, 3), (0, 0)], "a": [(1, 0), (0, 5)]}
        told = flows(handed, {"a": 1, "b": 1})
        self.assertIs(type(told), dict)
        self.assertEqual(list(told), [((0, 0), (3, 3)), ((0, 5), (1, 0)), ((3, 3), (9, 9))])

    def test_rows_that_are_tuples(self):
        for load in even_loads()[:10]:
            handed = {name: tuple(row) for name, row in rows(heap_of(load)).items()}
            before = dict(handed)
            self.assertEqual(flows(handed, weights_of(load)), flow_of_load(load))
            self.assertEqual(handed, before)

    def test_many(self):
        for load in even_loads() + heavy_loads():
            told = flow_of_load(load)
            self.assertEqual(told, flow_of(laid(heap_of(load)), weights_of(load)))
            self.assertEqual(list(told), sorted(told))
            self.assertEqual(list(told), pieces(rows(heap_of(load))))

    def test_of_rows_at_rest(self):
        for load in even_loads():
            told = rest(heap_of(load))[0]
            self.assertEqual(flows(told, weights_of(load)), flow_of(told, weights_of(load)))

    def test_the_handed_things_are_as_they_were_and_the_dict_is_new(self):
        handed, weights = {name: list(row) for name, row in TRIANGLE.items()}, dict(EVEN)
        told = flows(laid=handed, weights=weights)
        due = dict(told)
        told.clear()
        self.assertEqual((handed, weights), (TRIANGLE, EVEN))
        self.assertEqual(flows(weights=weights, laid=handed), due)


class LevelAt(unittest.TestCase):
    def refuses(self, kind, due, flow, place):
        with self.assertRaises(kind) as caught:
            level_at(flow, place)
        self.assertEqual(vars(caught.exception), {"word": kind.__name__, **due})

    def test_no_piece(self):
        self.assertEqual(level_at({}, INSIDE), 0)

    def test_a_triangle(self):
        for weight in (2, -3, 0, 7):
            flow = flows(TRIANGLE, {name: weight for name in TRIANGLE})
            self.assertEqual(level_at(flow, INSIDE), weight)
            self.assertEqual(level_at(flow, OUTSIDE), 0)
            # At the height of spots and of pieces that lie level.
            self.assertEqual([level_at(flow, place_of(x, y)) for x, y in ((-1, 0), (5, 0), (-1, 4), (1, 4))], [0] * 4)

    def test_one_within_another(self):
        flow = flow_of_load(loaded(box(0, 0, 9, 2) + box(2, 2, 5, -3) + box(3, 3, 2, 1)))
        half = Fraction(1, 2)
        told = [level_at(flow, place_of(x + half, 4)) for x in range(-1, 10)]
        self.assertEqual(told, [0, 2, 2, -1, 0, 0, -1, -1, 2, 2, 0])
        # At the height of a level piece.
        self.assertEqual([level_at(flow, place_of(x + half, 3)) for x in range(-1, 3)], [0, 2, 2, -1])

    def test_crossing(self):
        flow = flow_of_load(loaded(box(0, 0, 6, 1) + box(3, 3, 6, 2)))
        places = [place_of(x, y) for x, y in ((1, 1), (4, 4), (8, 8), (8, 1), (1, 8), (5, 3 + Fraction(1, 9)))]
        self.assertEqual([level_at(flow, place) for place in places], [1, 3, 2, 0, 0, 3])

    def test_on_a_piece(self):
        flow = flows(TRIANGLE, EVEN)
        for place in (RIM, CORNER, place_of(4, 0), place_of(0, "7/2"), place_of("1/3", 0), place_of("1/3", "11/3")):
            self.refuses(OnLine, {"place": place}, flow, place)

    def test_on_a_piece_with_nought(self):
        flow = flows(TRIANGLE, {"a": 0, "b": 0, "c": 0})
        self.refuses(OnLine, {"place": RIM}, flow, RIM)
        self.refuses(OnLine, {"place": CORNER}, {((0, 0), (3, 1)): 0}, CORNER)

    def test_loose_with_the_least_spot(self):
        self.refuses(Loose, {"spot": (0, 0)}, {((0, 0), (3, 1)): 1}, INSIDE)
        self.refuses(Loose, {"spot": (0, 4)}, flows(TRIANGLE, {"a": 2, "b": 1, "c": 2}), INSIDE)
        self.refuses(Loose, {"spot": (0, 0)}, flows(TRIANGLE, {"a": 1, "b": 2, "c": 2}), INSIDE)
        flow = {((5, 5), (6, 6)): 1, ((-1, 7), (9, 9)): 0, ((1, -2), (1, 3)): 4, ((1, 3), (2, 0)): 4}
        self.refuses(Loose, {"spot": (1, -2)}, flow, INSIDE)

    def test_loose_ahead_of_on_line(self):
        flow = flows(TRIANGLE, {"a": 2, "b": 1, "c": 2})
        for place in (RIM, CORNER, INSIDE, OUTSIDE):
            self.refuses(Loose, {"spot": (0, 4)}, flow, place)

    def test_many(self):
        for at, load in enumerate(even_loads()):
            flow = flow_of_load(load)
            source = random.Random(at)
            for under in (1, 1, 1, 2, 2, 3, 12, 1000, 999999999):
                far = min(10 * under, 999999999)
                place = place_of(*[Fraction(source.randint(-far, far), under) for number in range(2)])
                if PlainMap(list(flow)).field_at(place) is None:
                    self.refuses(OnLine, {"place": place}, flow, place)
                else:
                    self.assertEqual(level_at(flow, place), level(flow, place), (load, place))

    def test_the_flow_is_as_it_was(self):
        flow = flows(TRIANGLE, EVEN)
        turned = dict(reversed(list(flow.items())))
        self.assertEqual(level_at(place=INSIDE, flow=turned), 2)
        self.assertEqual(list(turned.items()), list(flow.items())[::-1])


class Levels(unittest.TestCase):
    def refuses(self, spot, flow):
        with self.assertRaises(Loose) as caught:
            levels(Map(list(flow)), flow)
        self.assertEqual(vars(caught.exception), {"word": "Loose", "spot": spot})

    def test_no_piece(self):
        self.assertEqual(levels(Map([]), {}), [0])

    def test_a_triangle(self):
        for weight in (2, -3, 0):
            flow = flows(TRIANGLE, {name: weight for name in TRIANGLE})
            self.assertEqual(levels(Map(list(flow)), flow), [0, weight])

    def test_one_within_another(self):
        flow = flow_of_load(loaded(box(0, 0, 9, 2) + box(2, 2, 5, -3) + box(3, 3, 2, 1)))
        self.assertEqual(levels(Map(list(flow)), flow), [0, 2, -1, 0])

    def test_crossing(self):
        flow = flow_of_load(loaded(box(0, 0, 6, 1) + box(3, 3, 6, 2)))
        self.assertEqual(levels(Map(list(flow)), flow), [0, 1, 3, 2])

    def test_many(self):
        for load in even_loads():
            flow = flow_of_load(load)
            due = PlainMap(list(flow))
            told = levels(Map(list(flow)), flow)
            self.assertIs(type(told), list)
            self.assertEqual(told, [level(flow, due.place_in(number)) for number in range(len(due.outers))], load)

    def test_all_places_of_a_field_have_one_level(self):
        for load in even_loads():
            flow = flow_of_load(load)
            land = Map(list(flow))
            told = levels(land, flow)
            for one, other in list(flow)[::2]:
                for step in ((one, other), (other, one)):
                    self.assertEqual(level_at(flow, left_of(*step)), told[land.beside(*step)])

    def test_left_of_a_step_and_right_of_it(self):
        for load in even_loads():
            flow = flow_of_load(load)
            land = Map(list(flow))
            told = levels(land, flow)
            self.assertEqual(told[0], 0)
            for (one, other), along in flow.items():
                self.assertEqual(told[land.beside(one, other)] - told[land.beside(other, one)], along)

    def test_of_rows_at_rest(self):
        for load in even_loads():
            flow = flows(rest(heap_of(load))[0], weights_of(load))
            land = Map(list(flow))
            told = levels(land, flow)
            for (one, other), along in flow.items():
                self.assertEqual(told[land.beside(one, other)] - told[land.beside(other, one)], along)

    def test_loose(self):
        refused = 0
        for load in heavy_loads():
            flow = flow_of_load(load)
            if loose(load) is not None:
                self.refuses(loose(load), flow)
                refused += 1
            else:
                self.assertEqual(levels(Map(list(flow)), flow)[0], 0)
        self.assertGreater(refused, 20)

    def test_one_weight_of_a_ring_changed(self):
        for load in even_loads()[1:]:
            for name, (stroke, weight) in list(load.items())[:3]:
                changed = {**load, name: (stroke, weight + 1)}
                self.refuses(loose(changed), flow_of_load(changed))

    def test_the_handed_things_are_as_they_were_and_the_list_is_new(self):
        flow = flow_of_load(loaded(box(0, 0, 6, 1) + box(3, 3, 6, 2)))
        land, before = Map(list(flow)), list(flow.items())
        levels(land, flow).clear()
        self.assertEqual(levels(flow=flow, land=land), [0, 1, 3, 2])
        self.assertEqual(list(flow.items()), before)
        self.assertEqual(levels(land, dict(before[::-1])), [0, 1, 3, 2])


if __name__ == "__main__":
    unittest.main()
