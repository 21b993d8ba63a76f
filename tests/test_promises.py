"""What comes of bent rows, over heaps of several strokes near one another: no piece comes over to another side."""

import unittest
from fractions import Fraction

from dotmoor.heaps import causes, hot
from dotmoor.laying import pieces, rows
from dotmoor.strokes import goes
from plain import HALF, common, ends, heaps, named, strokes, within

LARGE = [named(strokes(31, 32, 40)), named(strokes(32, 32, 12)), named(strokes(33, 20, 6))]
HEAPS = heaps() + LARGE


def turned(stroke):
    return stroke[2:] + stroke[:2]


def exchanged(numbers):
    """A spot or a stroke with x and y exchanged."""
    if len(numbers) == 4:
        return exchanged(numbers[:2]) + exchanged(numbers[2:])
    return (numbers[1], numbers[0])


def moved(numbers, by):
    """A spot or a stroke moved by whole steps."""
    return tuple(number + by[at % 2] for at, number in enumerate(numbers))


def lesser_first(lines):
    return sorted(tuple(sorted(line)) for line in lines)


def apart(one, other):
    """Whether two pieces lie apart in x or in y, so that they have no place in common."""
    return any(max(a, b) < min(c, d) or max(c, d) < min(a, b)
               for a, b, c, d in zip(one[0], one[1], other[0], other[1]))


def heights(line, x):
    """The y of the places with that x on a line between two spots, the ends of a stretch where it is upright."""
    (x1, y1), (x2, y2) = line
    if not min(x1, x2) <= x <= max(x1, x2):
        return []
    if x1 == x2:
        return [y1, y2]
    return [y1 + Fraction((x - x1) * (y2 - y1), x2 - x1)]


class Pieces(unittest.TestCase):
    def test_unlike_ones_have_no_place_in_common_but_an_end_of_both(self):
        for heap in HEAPS:
            found = pieces(rows(heap))
            for at, one in enumerate(found):
                for other in found[at + 1:]:
                    if not apart(one, other):
                        self.meet_at_ends(one, other, heap)

    def meet_at_ends(self, one, other, heap):
        met = common(one[0] + one[1], other[0] + other[1])
        if met is not None:
            self.assertEqual(met[0], "at", heap)
            spots = [(x, y) for x, y in one if met[1] == ((x, 1), (y, 1))]
            self.assertEqual(len(spots), 1, heap)
            self.assertIn(spots[0], other, heap)

    def test_no_more_than_a_half_from_the_stroke(self):
        for heap in HEAPS:
            for name, row in rows(heap).items():
                self.assertEqual((row[0], row[-1]), ends(heap[name]))
                for spot in row:
                    # What lies so near to a stroke has no dents, so that the spots speak for all places between.
                    self.assertTrue(within(heap[name], spot, HALF), (heap, name, spot))

    def test_hot_spots_beside_a_stroke_stay_on_their_side(self):
        for heap in HEAPS:
            spots = hot(heap)
            for name, row in rows(heap).items():
                beside = [spot for spot in spots if not goes(heap[name], spot)]
                self.assertEqual(len(beside) + len(row), len(spots))
                self.same_side(ends(heap[name]), row, beside)
                self.same_side([exchanged(end) for end in ends(heap[name])], [exchanged(spot) for spot in row],
                               [exchanged(spot) for spot in beside])

    def same_side(self, stroke, row, beside):
        if stroke[0][0] == stroke[1][0]:
            return
        for x, y in beside:
            for height in heights(stroke, x):
                told = [over > y for step in zip(row, row[1:]) for over in heights(step, x) if over != y]
                self.assertEqual(set(told), {height > y}, (stroke, row, (x, y)))
                self.assertNotIn(y, [over for step in zip(row, row[1:]) for over in heights(step, x)])


class Changed(unittest.TestCase):
    def test_told_in_another_order(self):
        for heap in HEAPS:
            other = {name: heap[name] for name in sorted(heap, key=lambda name: name[::-1], reverse=True)}
            self.assertEqual(rows(other), rows(heap))

    def test_named_otherwise(self):
        for heap in HEAPS:
            other = {name: heap[left] for name, left in zip(sorted(heap), sorted(heap, reverse=True))}
            self.assertEqual(pieces(rows(other)), pieces(rows(heap)))

    def test_turned_about(self):
        for heap in HEAPS:
            due = rows(heap)
            for which in (0, 1, 2):
                other = {name: stroke if at % 3 == which else turned(stroke)
                         for at, (name, stroke) in enumerate(heap.items())}
                told = rows(other)
                self.assertEqual(pieces(told), pieces(due), heap)
                for name in heap:
                    self.assertEqual(told[name], due[name] if other[name] == heap[name] else due[name][::-1])

    def test_moved(self):
        # Those with strokes as far out as can be have no room to be moved.
        for heap in [heap for heap in HEAPS if heap != LARGE[0]]:
            for by in ((1, 0), (0, -3), (-7, 11)):
                told = rows({name: moved(stroke, by) for name, stroke in heap.items()})
                due = rows(heap)
                self.assertEqual(told, {name: [moved(spot, by) for spot in row] for name, row in due.items()})
                self.assertEqual(pieces(told), [(moved(one, by), moved(other, by)) for one, other in pieces(due)])

    def test_x_and_y_exchanged(self):
        for heap in HEAPS:
            told = rows({name: exchanged(stroke) for name, stroke in heap.items()})
            due = rows(heap)
            self.assertEqual(told, {name: [exchanged(spot) for spot in row] for name, row in due.items()})
            self.assertEqual(pieces(told), lesser_first([map(exchanged, piece) for piece in pieces(due)]))

    def test_a_stroke_taken_out(self):
        for heap in HEAPS:
            before = causes(heap)
            for name in list(heap)[:8]:
                left = {other: stroke for other, stroke in heap.items() if other != name}
                due = [(spot, cause) for spot, cause in before if not self.of(cause, name)]
                self.assertEqual(causes(left), due)
                cold = {spot for spot, cause in before} - {spot for spot, cause in due}
                self.assertEqual(set(hot(heap)) - set(hot(left)), cold)
                self.assertEqual(set(hot(left)) - set(hot(heap)), set())

    def of(self, cause, name):
        return name in cause[1:2] if cause[0] == "end" else name in cause[1:]


if __name__ == "__main__":
    unittest.main()
