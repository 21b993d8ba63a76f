"""Maps: spots, rims, holes and fields, against a plain reckoning with rays."""

import copy
import random
import unittest
from fractions import Fraction

from dotmoor.errors import NoField, NoPiece, NoPoint, OnLine
from dotmoor.fields import Map
from dotmoor.laying import pieces, rest, rows
from plain import heaps, named, strokes
from plainloads import even_loads, heap_of
from plainmaps import PlainMap, left_of, place_of, square


def sparse_grid(seed):
    """Some of the sides and rising diagonals of small squares: many parts, some of them within others."""
    source = random.Random(seed)
    every = [((x, y), (x + right, y + upward)) for x in range(7) for y in range(7)
             for right, upward in ((1, 0), (0, 1), (1, 1))]
    return source.sample(every, source.randint(20, 90))


CROSS = [((0, 0), (1, 1)), ((0, 1), (1, 1)), ((1, 1), (2, 0)), ((1, 1), (2, 1))]
ONE = [((-1, 2), (3, 0))]
NESTED = square(0, 0, 12) + square(2, 2, 8) + square(4, 4, 4)
APART = square(0, 0, 2) + square(5, 1, 2) + [((-4, 0), (-3, 3))]
# Beside a square within a square a piece alone, and one more square in the inner one.
MANY = square(0, 0, 20) + square(2, 2, 8) + square(12, 3, 5) + [((12, 12), (15, 18))] + square(4, 4, 2)
HANGING = square(0, 0, 6) + [((0, 0), (2, 1)), ((2, 1), (3, 3)), ((6, 6), (8, 9)), ((2, 1), (4, 1))]
# A triangle touches the square from within, another one from without.
PINCHED = square(0, 0, 8) + [((0, 0), (5, 2)), ((2, 5), (5, 2)), ((0, 0), (2, 5))] + [
    ((8, 8), (10, 8)), ((8, 8), (8, 10)), ((8, 10), (10, 8))] + square(2, 2, 1) + square(6, 6, 1)
GRID = [((x, y), (x + 1, y)) for x in range(4) for y in range(5)] + [
    ((x, y), (x, y + 1)) for x in range(5) for y in range(4)]
# Holes that a lesser square beside them doesn't hold, though its corners are nearer.
BESIDE = square(0, 0, 30) + square(1, 1, 9) + square(1, 11, 9) + square(11, 1, 5) + square(12, 12, 1) + square(3, 3, 1)
# Its second spot has the field within to the left of it.
FALLEN = [((0, 0), (4, -1)), ((2, -3), (4, -1)), ((0, 0), (2, -3))]
WRITTEN = [[], ONE, CROSS, NESTED, APART, MANY, HANGING, PINCHED, GRID, BESIDE, FALLEN]
LAID = [pieces(rows(heap)) for heap in heaps() + [named(strokes(41, 32, 40)), named(strokes(42, 24, 12))]]
RESTED = [pieces(rest(heap)[0]) for heap in heaps()[:20]]
RINGS = [pieces(rows(heap_of(load))) for load in even_loads()]
SPARSE = [sparse_grid(seed) for seed in range(40)]
MAPS = WRITTEN + LAID + RESTED + RINGS + SPARSE


def shuffled(things, seed=1):
    told = list(things)
    random.Random(seed).shuffle(told)
    return told


def steps_of(rim):
    return list(zip(rim, rim[1:] + rim[:1]))


def told_by(land):
    """All that a map tells."""
    fields = range(land.counts()[2])
    told = (land.spots(), land.pieces(), [land.turned(spot) for spot in land.spots()], land.counts(),
            [land.rim(number) for number in fields], [land.holes(number) for number in fields],
            [land.area(number) for number in fields],
            [(land.beside(one, other), land.beside(other, one)) for one, other in land.pieces()])
    return copy.deepcopy(told)


class Written(unittest.TestCase):
    def test_no_piece(self):
        land = Map([])
        self.assertEqual((land.spots(), land.pieces(), land.counts()), ([], [], (0, 0, 1, 0)))
        self.assertEqual((land.rim(0), land.holes(0), land.area(0)), ([], [], 0))
        self.assertEqual(land.field_at(((0, 1), (0, 1))), 0)

    def test_one_piece(self):
        land = Map(ONE)
        self.assertEqual(land.spots(), [(-1, 2), (3, 0)])
        self.assertEqual(land.counts(), (2, 1, 1, 1))
        self.assertEqual((land.rim(0), land.holes(0), land.area(0)), ([], [[(-1, 2), (3, 0)]], 0))
        self.assertEqual((land.beside((-1, 2), (3, 0)), land.beside((3, 0), (-1, 2))), (0, 0))
        self.assertEqual((land.turned((-1, 2)), land.turned((3, 0))), ([(3, 0)], [(-1, 2)]))

    def test_two_that_cross(self):
        land = Map(CROSS)
        self.assertEqual(land.counts(), (5, 4, 1, 1))
        self.assertEqual(land.turned((1, 1)), [(2, 1), (0, 1), (0, 0), (2, 0)])
        self.assertEqual(land.holes(0), [[(0, 0), (1, 1), (0, 1), (1, 1), (2, 1), (1, 1), (2, 0), (1, 1)]])

    def test_a_square(self):
        land = Map(square(0, 0, 2))
        self.assertEqual(land.counts(), (4, 4, 2, 1))
        self.assertEqual(land.rim(1), [(0, 0), (2, 0), (2, 2), (0, 2)])
        self.assertEqual(land.holes(0), [[(0, 0), (0, 2), (2, 2), (2, 0)]])
        self.assertEqual((land.area(0), land.area(1), land.holes(1)), (-8, 8, []))
        self.assertEqual((land.beside((0, 0), (2, 0)), land.beside((2, 0), (0, 0))), (1, 0))

    def test_squares_within_squares(self):
        land = Map(NESTED)
        self.assertEqual(land.counts(), (12, 12, 4, 3))
        self.assertEqual([land.rim(number)[0] for number in (1, 2, 3)], [(0, 0), (2, 2), (4, 4)])
        self.assertEqual([land.holes(number)[0][:2] for number in (0, 1, 2)],
                         [[(0, 0), (0, 12)], [(2, 2), (2, 10)], [(4, 4), (4, 8)]])
        self.assertEqual(land.holes(3), [])
        self.assertEqual([land.area(number) for number in range(4)], [-288, 288 - 128, 128 - 32, 32])
        self.assertEqual([land.field_at(place_of(at + Fraction(1, 2), 6)) for at in (-1, 0, 1, 2, 3, 4, 11, 12)],
                         [0, 1, 1, 2, 2, 3, 1, 0])

    def test_parts_beside_one_another(self):
        land = Map(APART)
        self.assertEqual(land.counts(), (10, 9, 3, 3))
        self.assertEqual([rim[0] for rim in land.holes(0)], [(-4, 0), (0, 0), (5, 1)])
        self.assertEqual(land.area(0), -16)

    def test_parts_within_a_field(self):
        land = Map(MANY)
        self.assertEqual(land.counts()[2:], (5, 5))
        self.assertEqual([land.rim(number)[0] for number in (1, 2, 3, 4)], [(0, 0), (2, 2), (4, 4), (12, 3)])
        self.assertEqual([rim[0] for rim in land.holes(1)], [(2, 2), (12, 3), (12, 12)])
        self.assertEqual([rim[0] for rim in land.holes(2)], [(4, 4)])
        self.assertEqual(land.area(1), 800 - 128 - 50)

    def test_pieces_that_hang_into_a_field(self):
        land = Map(HANGING)
        self.assertEqual(land.counts(), (8, 8, 2, 1))
        due = [(0, 0), (2, 1), (3, 3), (2, 1), (4, 1), (2, 1), (0, 0), (6, 0), (6, 6), (0, 6)]
        self.assertEqual(land.rim(1), due)
        self.assertEqual(land.holes(0), [[(0, 0), (0, 6), (6, 6), (8, 9), (6, 6), (6, 0)]])
        self.assertEqual((land.area(1), land.area(0)), (72, -72))
        self.assertEqual((land.beside((2, 1), (3, 3)), land.beside((3, 3), (2, 1))), (1, 1))
        self.assertEqual((land.beside((6, 6), (8, 9)), land.beside((8, 9), (6, 6))), (0, 0))

    def test_rims_that_touch_themselves(self):
        land = Map(PINCHED)
        self.assertEqual(land.counts()[2:], (6, 3))
        inner, between = land.field_at(place_of("3/2", "3/2")), land.field_at(place_of(7, "1/2"))
        self.assertEqual((inner, between), (land.beside((0, 0), (5, 2)), land.beside((5, 2), (0, 0))))
        self.assertEqual([rim[0] for rim in land.holes(inner)], [(2, 2)])
        self.assertEqual([rim[0] for rim in land.holes(between)], [(6, 6)])
        self.assertEqual(land.rim(between).count((0, 0)), 2)

    def test_the_least_rim_round_a_part_counts(self):
        land = Map(BESIDE)
        self.assertEqual([[rim[0] for rim in land.holes(number)] for number in range(land.counts()[2])],
                         [[(0, 0)], [(1, 1), (1, 11), (11, 1), (12, 12)], [(3, 3)], [], [], [], []])

    def test_a_grid(self):
        land = Map(shuffled(GRID))
        self.assertEqual(land.counts(), (25, 40, 17, 1))
        self.assertEqual([land.area(number) for number in range(17)], [-32] + [2] * 16)
        for number in range(1, 17):
            x, y = divmod(number - 1, 4)
            self.assertEqual(land.rim(number), [(x, y), (x + 1, y), (x + 1, y + 1), (x, y + 1)])


class Plain(unittest.TestCase):
    def each(self):
        for lines in MAPS:
            yield Map(lines), PlainMap(lines), lines

    def test_spots_pieces_and_counts(self):
        for land, due, lines in self.each():
            self.assertEqual(land.spots(), due.spots)
            self.assertEqual(land.pieces(), due.lines)
            self.assertEqual(land.counts(), due.counts(), lines)
            self.assertIs(type(land.counts()), tuple)

    def test_turned(self):
        for land, due, lines in self.each():
            for spot in due.spots:
                self.assertEqual(land.turned(spot), due.near[spot])

    def test_rims_holes_and_areas(self):
        for land, due, lines in self.each():
            for number in range(len(due.outers)):
                self.assertEqual(land.rim(number), due.rim(number), lines)
                self.assertEqual(land.holes(number), due.holes(number), lines)
                self.assertEqual(land.area(number), due.area(number), lines)

    def test_beside(self):
        for land, due, lines in self.each():
            for one, other in due.steps:
                self.assertEqual(land.beside(one, other), due.field[due.rim_at[(one, other)]], lines)

    def test_places_beside_steps(self):
        for land, due, lines in self.each():
            for one, other in due.steps[::3]:
                place = left_of(one, other)
                self.assertEqual(land.field_at(place), land.beside(one, other), (lines, place))

    def test_places(self):
        for at, (land, due, lines) in enumerate(self.each()):
            source = random.Random(at)
            for under in (1, 1, 2, 2, 3, 7, 64, 999, 999999999):
                far = min(12 * under, 999999999)
                place = place_of(*[Fraction(source.randint(-far, far), under) for number in range(2)])
                self.asked(land, due.field_at(place), place)

    def test_places_at_the_height_of_spots(self):
        for at, (land, due, lines) in enumerate(self.each()):
            source = random.Random(at)
            for x, y in source.sample(due.spots, min(4, len(due.spots))):
                for away in (1, Fraction(1, 2), Fraction(-1, 3), -2, Fraction(-5, 2)):
                    place = place_of(x + away, y)
                    self.asked(land, due.field_at(place), place)

    def asked(self, land, due, place):
        if due is not None:
            self.assertEqual(land.field_at(place), due, (land.pieces(), place))
            return
        with self.assertRaises(OnLine) as caught:
            land.field_at(place)
        self.assertEqual(vars(caught.exception), {"word": "OnLine", "place": place})

    def test_the_order_of_pieces_tells_nothing(self):
        for land, due, lines in self.each():
            self.assertEqual(told_by(Map(shuffled(lines))), told_by(land))
            self.assertEqual(told_by(Map(tuple(lines[::-1]))), told_by(land))


class Always(unittest.TestCase):
    def test_spots_less_pieces_and_fields_are_one_more_than_the_parts(self):
        for lines in MAPS:
            spots, many, fields, parts = Map(lines).counts()
            self.assertEqual(spots - many + fields, parts + 1, lines)

    def test_all_steps_of_all_rims_are_each_piece_there_and_back(self):
        for lines in MAPS:
            land = Map(lines)
            found = []
            for number in range(land.counts()[2]):
                for rim in [land.rim(number)] + land.holes(number):
                    self.assertEqual([land.beside(*step) for step in steps_of(rim)], [number] * len(rim))
                    found += steps_of(rim)
                    self.assertEqual(steps_of(rim)[:1], sorted(steps_of(rim))[:1])
            self.assertEqual(sorted(found), sorted(lines + [(other, one) for one, other in lines]))

    def test_all_areas_together_come_to_nought(self):
        for lines in MAPS:
            land = Map(lines)
            areas = [land.area(number) for number in range(land.counts()[2])]
            self.assertEqual(sum(areas), 0)
            self.assertTrue(all(area > 0 for area in areas[1:]))

    def test_each_part_has_one_hole(self):
        for lines in MAPS:
            land = Map(lines)
            holes = [rim for number in range(land.counts()[2]) for rim in land.holes(number)]
            self.assertEqual(len(holes), land.counts()[3])

    def test_outer_rims_and_holes_rise(self):
        for lines in MAPS:
            land = Map(lines)
            fields = range(land.counts()[2])
            firsts = [steps_of(land.rim(number))[0] for number in fields[1:]]
            self.assertEqual(firsts, sorted(firsts))
            for number in fields:
                self.assertEqual(land.holes(number), sorted(land.holes(number)))


class Refused(unittest.TestCase):
    def refuses(self, kind, due, call, *handed):
        with self.assertRaises(kind) as caught:
            call(*handed)
        self.assertEqual(vars(caught.exception), {"word": kind.__name__, **due})

    def test_no_point(self):
        for lines, spots in (([], [(0, 0)]), (ONE, [(1, 1), (0, 0), (3, 1)]), (NESTED, [(1, 1), (6, 0), (99, 99)])):
            for spot in spots:
                self.refuses(NoPoint, {"spot": spot}, Map(lines).turned, spot)

    def test_no_field(self):
        for lines, numbers in (([], (-1, 1, 7)), (ONE, (-1, 1)), (NESTED, (-1, -4, 4, 5, 999999999))):
            land = Map(lines)
            for number in numbers:
                for call in (land.rim, land.holes, land.area):
                    self.refuses(NoField, {"number": number}, call, number)

    def test_no_piece(self):
        land = Map(HANGING)
        for pair in (((0, 0), (6, 6)), ((6, 6), (0, 0)), ((0, 0), (0, 0)), ((0, 0), (1, 0)), ((7, 7), (9, 9)),
                     ((0, 0), (3, 3))):
            self.refuses(NoPiece, {"piece": pair}, land.beside, *pair)
        self.refuses(NoPiece, {"piece": ((0, 0), (1, 0))}, Map([]).beside, (0, 0), (1, 0))

    def test_on_a_piece(self):
        land = Map(HANGING)
        for place in (place_of(0, 0), place_of(8, 9), place_of(0, "7/3"), place_of(1, "1/2"), place_of(7, "15/2"),
                      place_of("5/2", 2), place_of("999999999/1000000000", "999999999/2000000000")):
            self.refuses(OnLine, {"place": place}, land.field_at, place)
        near = place_of("999999999/1000000000", "499999999/1000000000")
        self.assertEqual(land.field_at(near), 1)


class Kept(unittest.TestCase):
    def test_the_handed_list_changed_behind_it(self):
        for lines in WRITTEN:
            handed = shuffled(lines)
            before = list(handed)
            land = Map(handed)
            due = told_by(land)
            self.assertEqual(handed, before)
            handed.append(((50, 50), (51, 51)))
            handed[:2] = []
            self.assertEqual(told_by(land), due)

    def test_told_lists_are_new(self):
        for lines in WRITTEN:
            land = Map(lines)
            due = told_by(land)
            for told in (land.spots(), land.pieces()):
                told.append("more")
            for spot in land.spots():
                land.turned(spot).clear()
            for number in range(land.counts()[2]):
                land.rim(number).clear()
                for rim in land.holes(number):
                    rim.clear()
                land.holes(number).append([])
            self.assertEqual(told_by(land), due)

    def test_kinds(self):
        land = Map(MANY)
        for told in (land.spots(), land.pieces(), land.turned((0, 0)), land.rim(0), land.rim(1), land.holes(1)):
            self.assertIs(type(told), list)
        self.assertEqual({type(rim) for rim in land.holes(1)}, {list})

    def test_two_maps_have_nothing_to_do_with_one_another(self):
        one, other = Map(NESTED), Map(APART)
        self.assertEqual((one.counts(), other.counts()), ((12, 12, 4, 3), (10, 9, 3, 3)))

    def test_by_names(self):
        land = Map(lines=NESTED)
        self.assertEqual(land.turned(spot=(0, 0)), [(12, 0), (0, 12)])
        self.assertEqual((land.rim(number=0), land.holes(number=3), land.area(number=3)), ([], [], 32))
        self.assertEqual(land.beside(other=(12, 0), one=(0, 0)), 1)
        self.assertEqual(land.field_at(place=((5, 1), (5, 1))), 3)


if __name__ == "__main__":
    unittest.main()
