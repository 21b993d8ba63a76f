"""Bends: those of some spots through whose squares a stroke goes, in order, in each way."""

import random
import unittest

from dotmoor import bends
from dotmoor.bends import bent
from dotmoor.errors import BadWay
from dotmoor.strokes import squares
from plain import strokes, walk

WAYS = ("all", "walk", "halves")
FALLING = [(0, 2), (1, 2), (1, 1), (2, 1), (2, 0)]


def shuffled(spots, seed):
    told = list(spots)
    random.Random(seed).shuffle(told)
    return told


class Bent(unittest.TestCase):
    def tells(self, stroke, spots, due):
        self.assertEqual(bent(stroke, spots), due, (stroke, spots))
        for way in WAYS:
            for handed in (list(spots), tuple(spots), list(spots)[::-1]):
                told = bent(stroke, handed, way=way)
                self.assertIs(type(told), list)
                self.assertEqual(told, due, (stroke, handed, way))

    def test_the_ways(self):
        self.assertEqual((bends.ALL, bends.WALK, bends.HALVES), WAYS)

    def test_no_spots(self):
        self.tells((0, 0, 3, 1), [], [])

    def test_no_spot_met(self):
        self.tells((0, 0, 3, 0), [(0, 1), (1, 1), (-1, 0), (4, 0), (40, 40), (-40, 40)], [])

    def test_its_ends(self):
        self.tells((3, 1, 0, 0), [(0, 0), (3, 1)], [(3, 1), (0, 0)])
        self.tells((0, 0, 3, 1), [(0, 0), (3, 1)], [(0, 0), (3, 1)])

    def test_its_ends_are_not_added(self):
        self.tells((0, 2, 2, 0), [(1, 1)], [(1, 1)])
        self.tells((0, 2, 2, 0), [(1, 1), (1, 2), (5, 5)], [(1, 2), (1, 1)])

    def test_all_squares_about(self):
        about = [(x, y) for x in range(-1, 4) for y in range(-1, 4)]
        self.tells((0, 2, 2, 0), about, FALLING)
        self.tells((2, 0, 0, 2), about, FALLING[::-1])
        self.tells((0, 0, 2, 2), about, [(0, 0), (1, 1), (2, 2)])
        self.tells((1, 2, 1, 0), about, [(1, 2), (1, 1), (1, 0)])
        self.tells((2, 1, 0, 1), about, [(2, 1), (1, 1), (0, 1)])

    def test_one_spot(self):
        for x in range(-1, 4):
            for y in range(-1, 4):
                self.tells((0, 2, 2, 0), [(x, y)], [(x, y)] if (x, y) in FALLING else [])

    def test_many_strokes_and_spots(self):
        for seed, stroke in enumerate(strokes(11, 60, 6) + strokes(12, 40, 15)):
            source = random.Random(seed)
            every = [(x, y) for x in range(-16, 17) for y in range(-16, 17)]
            spots = source.sample(every, source.choice((1, 5, 60, 400, len(every))))
            self.tells(stroke, spots, [spot for spot in walk(stroke) if spot in set(spots)])

    def test_spots_along_long_strokes(self):
        for seed, stroke in enumerate(strokes(13, 40, 40) + [(-40, -40, 40, 39), (40, -40, -40, 40)]):
            through = squares(stroke)
            beside = {(x + 1, y) for x, y in through} | {(x, y - 1) for x, y in through}
            spots = shuffled(sorted(beside | set(through)), seed)[::2]
            self.tells(stroke, spots, [spot for spot in walk(stroke) if spot in set(spots)])

    def test_the_order_of_spots_tells_nothing(self):
        about = [(x, y) for x in range(-1, 4) for y in range(-1, 4)]
        for seed in range(20):
            self.tells((0, 2, 2, 0), shuffled(about, seed), FALLING)

    def test_the_handed_list_is_as_it_was_and_the_told_one_is_new(self):
        for way in WAYS:
            for spots in ([(2, 0), (0, 2), (1, 1), (7, 7)], [(1, 1)], []):
                before = list(spots)
                told = bent((0, 2, 2, 0), spots, way=way)
                told.append((9, 9))
                self.assertEqual(spots, before)
                self.assertEqual(bent((0, 2, 2, 0), spots, way=way), told[:-1])

    def test_other_ways_are_refused(self):
        for way in ("", "ALL", "half", "all ", "walks", "both"):
            for spots in ([], [(0, 0)]):
                with self.assertRaises(BadWay) as caught:
                    bent((0, 0, 1, 0), spots, way=way)
                self.assertEqual(vars(caught.exception), {"word": "BadWay", "way": way})

    def test_by_names(self):
        self.assertEqual(bent(spots=[(1, 0), (0, 0)], stroke=(0, 0, 1, 0)), [(0, 0), (1, 0)])
        self.assertEqual(bent(way="halves", spots=[(1, 0), (0, 0)], stroke=(1, 0, 0, 0)), [(1, 0), (0, 0)])

    def test_way_goes_by_its_name_alone(self):
        with self.assertRaises(TypeError):
            bent((0, 0, 1, 0), [(0, 0)], "all")


if __name__ == "__main__":
    unittest.main()
