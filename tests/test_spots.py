"""Spots: their bounds, and the turn of a way over three of them."""

import unittest

from dotmoor.spots import FAR, is_spot, turning


class Bounds(unittest.TestCase):
    def test_far(self):
        self.assertIs(type(FAR), int)
        self.assertEqual(FAR, 40)

    def test_at_the_bounds(self):
        for spot in ((40, 40), (40, -40), (-40, 40), (-40, -40), (40, 0), (0, 40), (-40, 0), (0, -40)):
            self.assertIs(is_spot(spot), True, spot)

    def test_within(self):
        for x in range(-40, 41):
            for y in range(-40, 41):
                self.assertIs(is_spot((x, y)), True, (x, y))

    def test_beyond(self):
        for far in (41, 42, 80, 999999999, -41, -42, -80, -999999999):
            for near in (-40, -1, 0, 1, 40):
                self.assertIs(is_spot((far, near)), False, (far, near))
                self.assertIs(is_spot((near, far)), False, (near, far))
            self.assertIs(is_spot((far, far)), False, (far, far))
            self.assertIs(is_spot((far, -far)), False, (far, -far))

    def test_by_name(self):
        self.assertIs(is_spot(spot=(1, 2)), True)
        self.assertIs(is_spot(spot=(1, 41)), False)


class Turning(unittest.TestCase):
    def turns(self, one, two, three, due):
        told = turning(one, two, three)
        self.assertIs(type(told), int)
        self.assertEqual(told, due, (one, two, three))

    def test_left(self):
        self.turns((0, 0), (1, 0), (1, 1), 1)
        self.turns((0, 0), (1, 0), (0, 1), 1)
        self.turns((-40, -40), (39, 38), (40, 40), 1)

    def test_right(self):
        self.turns((0, 0), (0, 1), (1, 1), -1)
        self.turns((0, 0), (1, 0), (1, -1), -1)
        self.turns((-40, -40), (38, 39), (40, 40), -1)

    def test_on_one_line(self):
        self.turns((0, 0), (1, 2), (3, 6), 0)
        self.turns((-40, -40), (39, 39), (40, 40), 0)
        self.turns((0, 0), (3, 6), (1, 2), 0)
        self.turns((1, 2), (0, 0), (3, 6), 0)
        self.turns((5, -3), (5, 0), (5, 9), 0)
        self.turns((-3, 5), (0, 5), (9, 5), 0)

    def test_spots_alike(self):
        one, other = (3, -7), (4, 2)
        self.turns(one, one, other, 0)
        self.turns(one, other, other, 0)
        self.turns(one, other, one, 0)
        self.turns(one, one, one, 0)

    def test_every_way_in_a_small_square(self):
        near = [(x, y) for x in (-1, 0, 2) for y in (-2, 0, 1)]
        for one in near:
            for two in near:
                for three in near:
                    self.turns(one, two, three, self.side(one, two, three))

    def side(self, one, two, three):
        """The sign of the sum of x y' - y x' round the three spots."""
        ways = ((one, two), (two, three), (three, one))
        area = sum(x * y2 - y * x2 for (x, y), (x2, y2) in ways)
        return (area > 0) - (area < 0)

    def test_turned_about_and_round(self):
        spots = [(0, 0), (7, 3), (40, -40), (-40, 40), (2, 1), (14, 6)]
        for one in spots:
            for two in spots:
                for three in spots:
                    told = turning(one, two, three)
                    self.turns(three, two, one, -told)
                    self.turns(two, three, one, told)
                    self.turns(three, one, two, told)

    def test_by_names(self):
        self.assertEqual(turning(three=(1, 1), two=(1, 0), one=(0, 0)), 1)
        self.assertEqual(turning(three=(1, 0), two=(1, 1), one=(0, 0)), -1)


if __name__ == "__main__":
    unittest.main()
