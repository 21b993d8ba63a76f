"""Turns: spots in their order round a spot, and the sides of steps."""

import math
import random
import unittest

from dotmoor.turns import around, crossing, lies_on
from plainmaps import place_of, turn

# From the direction of growing x on, to the left.
ROUND = [(1, 0), (2, 1), (1, 1), (1, 2), (0, 1), (-1, 2), (-1, 1), (-2, 1),
         (-1, 0), (-2, -1), (-1, -1), (-1, -2), (0, -1), (1, -2), (1, -1), (2, -1)]
# Whole points as far as can be that have nearly the same direction.
CLOSE = [(79, 78), (80, 79), (78, 77), (80, 78), (79, 77), (1, 0), (80, 1), (79, 1), (80, -1), (79, -1)]


def all_directions(far):
    return [(x, y) for x in range(-far, far + 1) for y in range(-far, far + 1) if math.gcd(x, y) == 1]


def shuffled(things, seed):
    told = list(things)
    random.Random(seed).shuffle(told)
    return told


class Around(unittest.TestCase):
    def tells(self, spot, others, due):
        for handed in (list(others), tuple(others), list(others)[::-1]):
            before = handed[:]
            told = around(spot, handed)
            self.assertIs(type(told), list)
            self.assertEqual(told, due, (spot, handed))
            self.assertEqual(handed, before)
            self.assertIsNot(told, handed)

    def test_none(self):
        self.tells((3, -4), [], [])

    def test_one(self):
        for other in ROUND:
            self.tells((0, 0), [other], [other])

    def test_all_quarters_and_axes(self):
        for seed in range(20):
            self.tells((0, 0), shuffled(ROUND, seed), ROUND)

    def test_each_two(self):
        for at, one in enumerate(ROUND):
            for other in ROUND[at + 1:]:
                self.tells((0, 0), [other, one], [one, other])

    def test_round_another_spot(self):
        for x, y in ((5, 7), (-40, 40), (38, -38)):
            due = [(x + right, y + upward) for right, upward in ROUND]
            self.tells((x, y), shuffled(due, x), due)

    def test_near_and_far_ones(self):
        due = [(40, 0), (2, 1), (40, 40), (1, 2), (0, 1), (-20, 40), (-1, 1), (-40, 20),
               (-1, 0), (-40, -20), (-1, -1), (-20, -40), (0, -40), (1, -2), (40, -40), (2, -1)]
        for seed in range(5):
            self.tells((0, 0), shuffled(due, seed), due)

    def test_how_far_tells_nothing(self):
        for seed in range(30):
            source = random.Random(seed)
            due = [(x * by, y * by) for x, y in ROUND for by in (source.randint(1, 20),)]
            self.tells((0, 0), shuffled(due, seed), due)

    def test_nearly_alike(self):
        due = [(1, 0), (80, 1), (79, 1), (79, 77), (80, 78), (78, 77), (79, 78), (80, 79), (79, -1), (80, -1)]
        for seed in range(10):
            self.tells((0, 0), shuffled(CLOSE, seed), due)
        moved = [(x - 40, y - 40) for x, y in due[:8]]
        self.tells((-40, -40), shuffled(moved, 3), moved)
        for x in (-40, 40):
            for y in (-40, 40):
                far = [(x - x // 40 * ahead, y - y // 40 * (ahead - 1)) for ahead in (78, 79, 80)]
                self.tells((x, y), shuffled(far, x + y), turn((x, y), far))

    def test_nearly_alike_on_each_side(self):
        for x, y in ((79, 78), (3, 80), (-80, 79), (-79, -1), (-1, -80), (78, -79)):
            others = [(x + right, y + upward) for right in (-1, 0, 1) for upward in (-1, 0, 1)]
            others = [other for other in others if math.gcd(*other) == 1]
            self.tells((0, 0), shuffled(others, x), turn((0, 0), others))

    def test_every_direction_about(self):
        for far in (1, 2, 3, 7, 12):
            others = all_directions(far)
            due = sorted(others, key=lambda way: math.atan2(way[1], way[0]) % (2 * math.pi))
            self.tells((0, 0), shuffled(others, far), due)
        self.assertEqual(around((0, 0), shuffled(all_directions(40), 1)), turn((0, 0), all_directions(40)))

    def test_some_of_all_directions(self):
        for seed in range(60):
            source = random.Random(seed)
            x, y = source.randint(-40, 40), source.randint(-40, 40)
            found = {}
            for other in [(source.randint(-40, 40), source.randint(-40, 40)) for time in range(1 + seed)]:
                right, upward = other[0] - x, other[1] - y
                if (right, upward) != (0, 0):
                    found[(right // math.gcd(right, upward), upward // math.gcd(right, upward))] = other
            self.tells((x, y), shuffled(found.values(), seed), turn((x, y), list(found.values())))

    def test_by_names_and_told_anew(self):
        told = around(others=ROUND[::-1], spot=(0, 0))
        told.clear()
        self.assertEqual(around(spot=(0, 0), others=ROUND[::-1]), ROUND)


class Sides(unittest.TestCase):
    def test_on_a_line(self):
        for place in (place_of(0, 0), place_of(4, 2), place_of(1, "1/2"), place_of("2/3", "1/3")):
            self.assertIs(lies_on((0, 0), (4, 2), place), True)
            self.assertIs(lies_on((4, 2), (0, 0), place), True)
        for place in (place_of(6, 3), place_of(-2, -1), place_of(1, 1), place_of(2, 0), place_of(1, "500001/1000000")):
            self.assertIs(lies_on((0, 0), (4, 2), place), False)
        self.assertIs(lies_on((1, 0), (1, 5), place_of(1, "9/2")), True)
        self.assertIs(lies_on((1, 0), (1, 5), place_of(1, "11/2")), False)
        self.assertIs(lies_on((1, 0), (7, 0), place_of("1/2", 0)), False)

    def test_crossing(self):
        self.assertEqual(crossing((1, 0), (1, 2), place_of(0, 1)), 1)
        self.assertEqual(crossing((1, 2), (1, 0), place_of(0, 1)), -1)
        self.assertEqual(crossing((1, 0), (1, 2), place_of(2, 1)), 0)
        self.assertEqual(crossing((1, 2), (1, 0), place_of(2, 1)), 0)
        self.assertEqual(crossing((1, 0), (5, 0), place_of(0, 0)), 0)
        # The lower spot counts, the upper one does not.
        self.assertEqual([crossing((1, 0), (3, 2), place_of(0, y)) for y in (-1, 0, 1, 2, 3)], [0, 1, 1, 0, 0])
        self.assertEqual([crossing((3, 2), (1, 0), place_of(0, y)) for y in (-1, 0, 1, 2, 3)], [0, -1, -1, 0, 0])
        # So does a place on the step.
        self.assertEqual([crossing((1, 0), (3, 2), place_of(1 + y, y)) for y in (0, 1, 2)], [1, 1, 0])
        self.assertEqual([crossing((3, 2), (1, 0), place_of(1 + y, y)) for y in (0, 1, 2)], [-1, -1, 0])


if __name__ == "__main__":
    unittest.main()
