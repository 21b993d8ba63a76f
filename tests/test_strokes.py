"""Strokes: what is none, the squares through which one goes, their order, and how two of them meet."""

import unittest
from fractions import Fraction

from dotmoor.errors import BadSpot, BadStroke
from dotmoor.strokes import goes, meet, need_stroke, square_of, squares
from plain import HALF, common, ends, pair, strokes, walk

NEAR = [(x, y) for x in range(-3, 4) for y in range(-3, 4)]
SMALL = [(0, 0, x, y) for x, y in NEAR if (x, y) != (0, 0)] + [(2, -1, x, y) for x, y in NEAR if (x, y) != (2, -1)]
LONG = [(-40, -40, 40, 39), (-40, -40, 39, 40), (-40, 40, 40, -39), (-40, 40, 39, -40), (40, 40, -40, -39),
        (-40, -40, 40, 40), (-40, 40, 40, -40), (-40, 40, 40, 39), (-40, 0, 40, 0), (0, 40, 0, -40), (3, -40, 2, 40),
        (-40, 13, 40, 14), (-40, -40, -39, 40), (40, -40, 39, 40), (-40, 5, 40, -5), (-39, -40, 40, 39)]
SOME = SMALL + LONG + strokes(1, 60, 5) + strokes(2, 60, 13) + strokes(3, 40, 40)


def turned(stroke):
    return stroke[2:] + stroke[:2]


def about(stroke):
    """All spots from one beyond the stroke's least x and y to one beyond its greatest."""
    x1, y1, x2, y2 = stroke
    return [(x, y) for x in range(min(x1, x2) - 1, max(x1, x2) + 2) for y in range(min(y1, y2) - 1, max(y1, y2) + 2)]


class NeedStroke(unittest.TestCase):
    def refused(self, handed, refusal, **fields):
        for call in (lambda: need_stroke(handed), lambda: need_stroke(stroke=handed)):
            with self.assertRaises(refusal) as caught:
                call()
            self.assertEqual(vars(caught.exception), {"word": refusal.__name__, **fields})

    def test_within_and_at_the_bounds(self):
        for stroke in SOME + [(0, 0, 0, 1), (0, 0, 1, 0), (40, 40, 40, 39), (-40, 40, 40, 40), (40, -40, 40, 40)]:
            self.assertIsNone(need_stroke(stroke), stroke)

    def test_beyond(self):
        for far in (41, -41, 80, -999999999, 999999999):
            for near in (-40, 0, 40):
                self.refused((far, near, 0, 1), BadSpot, spot=(far, near))
                self.refused((near, far, 0, 1), BadSpot, spot=(near, far))
                self.refused((0, 1, far, near), BadSpot, spot=(far, near))
                self.refused((0, 1, near, far), BadSpot, spot=(near, far))

    def test_both_pairs_wrong(self):
        self.refused((41, 0, 0, -41), BadSpot, spot=(41, 0))
        self.refused((0, -41, 41, 0), BadSpot, spot=(0, -41))

    def test_ends_alike(self):
        for x, y in ((0, 0), (40, 40), (-40, 40), (7, -3)):
            self.refused((x, y, x, y), BadStroke, stroke=(x, y, x, y))

    def test_wrong_ends_alike_are_first_of_all_wrong(self):
        self.refused((41, 41, 41, 41), BadSpot, spot=(41, 41))

    def test_ends_alike_in_x_or_in_y(self):
        self.assertIsNone(need_stroke((5, -1, 5, 1)))
        self.assertIsNone(need_stroke((-1, 5, 1, 5)))


class Goes(unittest.TestCase):
    def test_all_spots_about(self):
        for stroke in SOME:
            through = set(walk(stroke))
            for spot in about(stroke):
                told = goes(stroke, spot)
                self.assertIs(type(told), bool)
                self.assertEqual(told, spot in through, (stroke, spot))

    def test_both_ends_and_turned_about(self):
        for stroke in SOME:
            for end in ends(stroke):
                self.assertIs(goes(stroke, end), True)
            for spot in about(stroke):
                self.assertIs(goes(turned(stroke), spot), goes(stroke, spot), (stroke, spot))

    def through(self, stroke, due):
        for way in (stroke, turned(stroke)):
            self.assertEqual([spot for spot in about(stroke) if goes(way, spot)], sorted(due), way)

    def test_rising_through_corners(self):
        # The corner that such a stroke meets is the lower left one of the square that it then enters.
        self.through((0, 0, 2, 2), [(0, 0), (1, 1), (2, 2)])
        self.through((-2, 0, 0, 2), [(-2, 0), (-1, 1), (0, 2)])

    def test_falling_through_corners(self):
        # The corner that such a stroke meets belongs to the square to the right above it.
        self.through((0, 2, 2, 0), [(0, 2), (1, 2), (1, 1), (2, 1), (2, 0)])
        self.through((-1, 1, 0, 0), [(-1, 1), (0, 1), (0, 0)])

    def test_along_no_rim_but_across_it(self):
        self.through((0, 0, 3, 0), [(0, 0), (1, 0), (2, 0), (3, 0)])
        self.through((0, 0, 0, -2), [(0, 0), (0, -1), (0, -2)])

    def test_a_rim_met_at_one_place(self):
        # At (1, 1/2) and at (1/2, 1): the lower and the left rim belong to a square.
        self.through((0, 0, 2, 1), [(0, 0), (1, 0), (1, 1), (2, 1)])
        self.through((0, 0, 1, 2), [(0, 0), (0, 1), (1, 1), (1, 2)])

    def test_long_strokes_through_corners_alone(self):
        # The middle of (0, 0) and (3, -1) is the corner (3/2, -1/2), which belongs to the square of (2, 0).
        self.through((0, 0, 3, -1), [(0, 0), (1, 0), (2, 0), (2, -1), (3, -1)])
        self.through((0, 0, 1, -3), [(0, 0), (0, -1), (1, -1), (1, -2), (1, -3)])
        self.through((0, 0, 3, 1), [(0, 0), (1, 0), (2, 1), (3, 1)])

    def test_far_away(self):
        for spot in ((40, 40), (-40, 40), (3, 0), (-1, 0), (0, 1), (1, 1), (2, -1)):
            self.assertIs(goes((0, 0, 2, 0), spot), False, spot)

    def test_by_names(self):
        self.assertIs(goes(spot=(1, 1), stroke=(0, 0, 2, 1)), True)
        self.assertIs(goes(spot=(1, -1), stroke=(0, 0, 2, 1)), False)


class Squares(unittest.TestCase):
    def test_in_order(self):
        for stroke in SOME:
            told = squares(stroke)
            self.assertIs(type(told), list)
            self.assertEqual(told, walk(stroke), stroke)

    def test_from_end_to_end_by_steps(self):
        for stroke in SOME:
            told = squares(stroke)
            self.assertEqual((told[0], told[-1]), ends(stroke))
            self.assertEqual(len(set(told)), len(told))
            for (x, y), (x2, y2) in zip(told, told[1:]):
                self.assertEqual(max(abs(x - x2), abs(y - y2)), 1, stroke)

    def test_just_those_that_goes_tells(self):
        for stroke in SOME:
            self.assertEqual(sorted(squares(stroke)), [spot for spot in about(stroke) if goes(stroke, spot)], stroke)

    def test_turned_about(self):
        for stroke in SOME:
            self.assertEqual(squares(turned(stroke)), squares(stroke)[::-1], stroke)

    def test_written_out(self):
        self.assertEqual(squares((0, 2, 2, 0)), [(0, 2), (1, 2), (1, 1), (2, 1), (2, 0)])
        self.assertEqual(squares((2, 2, 0, 0)), [(2, 2), (1, 1), (0, 0)])
        self.assertEqual(squares((0, 0, 2, 1)), [(0, 0), (1, 0), (1, 1), (2, 1)])
        self.assertEqual(squares((-40, 0, 40, 0)), [(x, 0) for x in range(-40, 41)])
        self.assertEqual(squares((-40, -40, 40, 40)), [(x, x) for x in range(-40, 41)])

    def test_as_long_as_can_be(self):
        # Such a stroke comes into a new column 80 times and into a new row 79 or 80 times, never both at once.
        self.assertEqual(len(squares((-40, -40, 40, 39))), 160)
        self.assertEqual(len(squares((-40, 40, 40, -40))), 161)

    def test_told_lists_are_new(self):
        told = squares((0, 0, 3, 1))
        told.clear()
        self.assertEqual(squares(stroke=(0, 0, 3, 1)), walk((0, 0, 3, 1)))


class SquareOf(unittest.TestCase):
    def test_whole_places(self):
        for x, y in NEAR + [(40, -40), (-999999999, 999999999)]:
            self.assertEqual(square_of(((x, 1), (y, 1))), (x, y))

    def test_halves(self):
        for x, y in NEAR:
            self.assertEqual(square_of(((2 * x - 1, 2), (y, 1))), (x, y))
            self.assertEqual(square_of(((x, 1), (2 * y - 1, 2))), (x, y))
            self.assertEqual(square_of(((2 * x - 1, 2), (2 * y - 1, 2))), (x, y))
            self.assertEqual(square_of(((2 * x + 1, 2), (2 * y + 1, 2))), (x + 1, y + 1))

    def test_a_little_beside_halves(self):
        for small in (Fraction(1, 7), Fraction(1, 1000), Fraction(1, 99999999)):
            for x, y in NEAR:
                low, high = pair(x - HALF - small), pair(y + HALF + small)
                self.assertEqual(square_of((low, high)), (x - 1, y + 1))
                low, high = pair(x - HALF + small), pair(y + HALF - small)
                self.assertEqual(square_of((low, high)), (x, y))

    def test_kinds_and_name(self):
        told = square_of(place=((7, 4), (-7, 4)))
        self.assertEqual(told, (2, -2))
        self.assertEqual([type(told), type(told[0]), type(told[1])], [tuple, int, int])


class Meet(unittest.TestCase):
    def meets(self, one, other, due):
        for first in (one, turned(one)):
            for second in (other, turned(other)):
                self.assertEqual(meet(first, second), due, (first, second))
                self.assertEqual(meet(second, first), due, (second, first))

    def test_apart(self):
        self.meets((0, 0, 2, 2), (0, 1, 1, 2), None)
        self.meets((0, 0, 4, 0), (2, 1, 2, 5), None)
        self.meets((0, 0, 4, 0), (5, -1, 5, 1), None)
        self.meets((0, 0, 3, 1), (4, 2, 5, -7), None)

    def test_crossing(self):
        self.meets((-2, -2, 2, 2), (-2, 2, 2, -2), ("at", ((0, 1), (0, 1))))
        self.meets((0, 0, 2, 1), (0, 1, 2, 0), ("at", ((1, 1), (1, 2))))
        self.meets((0, 0, 3, 1), (1, 2, 2, -2), ("at", ((18, 13), (6, 13))))
        self.meets((-40, -40, 40, 39), (-40, -39, 40, -40), ("at", ((-39, 1), (-3121, 80))))

    def test_an_end_in_common(self):
        self.meets((1, 2, 5, 5), (1, 2, -7, 3), ("at", ((1, 1), (2, 1))))

    def test_one_ends_on_another(self):
        self.meets((0, 0, 4, 2), (2, 1, 0, 7), ("at", ((2, 1), (1, 1))))

    def test_on_one_line(self):
        self.meets((0, 0, 2, 1), (4, 2, 6, 3), None)
        self.meets((0, 0, 2, 1), (2, 1, 6, 3), ("at", ((2, 1), (1, 1))))
        self.meets((0, 0, 4, 2), (2, 1, 6, 3), ("along", (2, 1), (4, 2)))
        self.meets((0, 0, 6, 3), (2, 1, 4, 2), ("along", (2, 1), (4, 2)))
        self.meets((0, 0, 6, 3), (0, 0, 4, 2), ("along", (0, 0), (4, 2)))
        self.meets((0, 0, 6, 3), (0, 0, 6, 3), ("along", (0, 0), (6, 3)))

    def test_level_and_upright_lines(self):
        self.meets((3, -2, 3, 4), (3, 1, 3, 9), ("along", (3, 1), (3, 4)))
        self.meets((3, -2, 3, 1), (3, 1, 3, 9), ("at", ((3, 1), (1, 1))))
        self.meets((3, -2, 3, 0), (3, 1, 3, 9), None)
        self.meets((3, -2, 3, 4), (4, -2, 4, 4), None)
        self.meets((-2, 3, 4, 3), (1, 3, 9, 3), ("along", (1, 3), (4, 3)))
        self.meets((-2, 3, 4, 3), (-2, 4, 4, 4), None)

    def test_a_falling_line(self):
        # The spot with the lesser x is the lesser one, be it above.
        self.meets((0, 6, 6, 0), (2, 4, 9, -3), ("along", (2, 4), (6, 0)))

    def test_many(self):
        near = [stroke for stroke in SMALL if stroke[:2] == (0, 0)][::2] + strokes(5, 50, 2) + strokes(6, 50, 4)
        for one in near + LONG:
            for other in near + LONG:
                told = meet(one, other)
                self.assertEqual(told, common(one, other), (one, other))
                self.assertEqual(told, meet(turned(other), one), (one, other))

    def test_kinds(self):
        for told in (meet((0, 0, 2, 1), (0, 1, 2, 0)), meet((0, 0, 2, 1), (2, 1, 4, 2))):
            word, place = told
            self.assertEqual([type(told), type(place)], [tuple, tuple])
            for part in place:
                self.assertEqual([type(part), type(part[0]), type(part[1])], [tuple, int, int])

    def test_by_names(self):
        self.assertEqual(meet(other=(0, 1, 2, 0), one=(0, 0, 2, 1)), ("at", ((1, 1), (1, 2))))


if __name__ == "__main__":
    unittest.main()
