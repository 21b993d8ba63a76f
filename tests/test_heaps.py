"""Heaps: which squares are hot, and why."""

import unittest

from dotmoor.heaps import causes, hot, why
from plain import heaps, heat, named, strokes

CROSSED = {"b": (0, 0, 2, 1), "a": (0, 1, 2, 0)}
STAR = {"a": (-2, -2, 2, 2), "b": (-2, 2, 2, -2), "c": (0, -2, 0, 2)}
FULL = named([(-40, y, 40, -y) for y in range(-40, -24)] + [(x, -40, -x, 39) for x in range(-40, -24)])
HEAPS = heaps() + [{}, CROSSED, STAR, FULL, named(strokes(9, 32, 40)), named(strokes(8, 32, 5))]


class Written(unittest.TestCase):
    def test_the_empty_heap(self):
        self.assertEqual(causes({}), [])
        self.assertEqual(hot({}), [])
        self.assertEqual(why({}, (0, 0)), [])

    def test_one_stroke(self):
        heap = {"a": (3, 1, -2, 0)}
        self.assertEqual(causes(heap), [((-2, 0), ("end", "a", 1)), ((3, 1), ("end", "a", 0))])
        self.assertEqual(hot(heap), [(-2, 0), (3, 1)])
        self.assertEqual(why(heap, (3, 1)), [("end", "a", 0)])
        self.assertEqual(why(heap, (-2, 0)), [("end", "a", 1)])
        self.assertEqual(why(heap, (0, 0)), [])

    def test_two_that_cross(self):
        self.assertEqual(causes(CROSSED), [
            ((0, 0), ("end", "b", 0)),
            ((0, 1), ("end", "a", 0)),
            ((1, 1), ("cross", "a", "b")),
            ((2, 0), ("end", "a", 1)),
            ((2, 1), ("end", "b", 1)),
        ])
        self.assertEqual(hot(CROSSED), [(0, 0), (0, 1), (1, 1), (2, 0), (2, 1)])
        self.assertEqual(why(CROSSED, (1, 1)), [("cross", "a", "b")])
        self.assertEqual(why(CROSSED, (1, 0)), [])

    def test_two_that_cross_in_the_square_of_an_end(self):
        heap = {"a": (0, 0, 5, 1), "b": (1, -2, 0, 2)}
        # They meet at (10/21, 2/21), which is in the square of the first end of a.
        self.assertEqual(why(heap, (0, 0)), [("cross", "a", "b"), ("end", "a", 0)])

    def test_an_end_in_common(self):
        heap = {"b": (0, 0, 3, 1), "a": (-1, 4, 0, 0)}
        self.assertEqual(why(heap, (0, 0)), [("cross", "a", "b"), ("end", "a", 1), ("end", "b", 0)])
        self.assertEqual(hot(heap), [(-1, 4), (0, 0), (3, 1)])

    def test_one_ends_on_another(self):
        heap = {"a": (0, 0, 4, 2), "b": (2, 1, 2, 9)}
        self.assertEqual(why(heap, (2, 1)), [("cross", "a", "b"), ("end", "b", 0)])

    def test_a_stretch_is_no_cause(self):
        heap = {"a": (0, 0, 4, 2), "b": (2, 1, 6, 3)}
        self.assertEqual(causes(heap), [
            ((0, 0), ("end", "a", 0)),
            ((2, 1), ("end", "b", 0)),
            ((4, 2), ("end", "a", 1)),
            ((6, 3), ("end", "b", 1)),
        ])

    def test_on_one_line_with_an_end_in_common(self):
        heap = {"a": (0, 0, 2, 1), "b": (4, 2, 2, 1)}
        self.assertEqual(why(heap, (2, 1)), [("cross", "a", "b"), ("end", "a", 1), ("end", "b", 1)])

    def test_the_same_stroke_under_two_names(self):
        for other, first, second in (((0, 0, 4, 3), 0, 1), ((4, 3, 0, 0), 1, 0)):
            heap = {"b": (0, 0, 4, 3), "a": other}
            self.assertEqual(causes(heap), [
                ((0, 0), ("end", "a", first)),
                ((0, 0), ("end", "b", 0)),
                ((4, 3), ("end", "a", second)),
                ((4, 3), ("end", "b", 1)),
            ])

    def test_three_through_one_place(self):
        due = [("cross", "a", "b"), ("cross", "a", "c"), ("cross", "b", "c")]
        self.assertEqual(why(STAR, (0, 0)), due)
        self.assertEqual(len(hot(STAR)), 7)

    def test_as_python_orders_texts(self):
        heap = {"b": (-1, -1, 1, 1), "B": (-1, 1, 1, -1), "": (0, -1, 0, 1), "a b": (-1, 0, 1, 0), "ab": (2, 2, 3, 3)}
        names = ["", "B", "a b", "b"]
        due = [("cross", one, other) for one in names for other in names if one < other]
        self.assertEqual(why(heap, (0, 0)), due)

    def test_two_meetings_in_one_square(self):
        # a meets b at (1/3, 0) and c at (-1/3, 0).
        heap = {"a": (-3, 0, 3, 0), "b": (0, -1, 1, 2), "c": (0, -1, -1, 2)}
        self.assertEqual(why(heap, (0, 0)), [("cross", "a", "b"), ("cross", "a", "c")])

    def test_a_meeting_on_a_rim(self):
        self.assertEqual(why({"a": (0, 0, 1, 1), "b": (0, 1, 1, 0)}, (1, 1)), [("cross", "a", "b"), ("end", "a", 1)])
        self.assertEqual(why({"a": (0, 0, 1, 1), "b": (0, 1, 1, 0)}, (0, 0)), [("end", "a", 0)])

    def test_by_names(self):
        self.assertEqual(causes(heap=CROSSED), causes(CROSSED))
        self.assertEqual(hot(heap=CROSSED), hot(CROSSED))
        self.assertEqual(why(spot=(1, 1), heap=CROSSED), [("cross", "a", "b")])


class Many(unittest.TestCase):
    def test_causes(self):
        for heap in HEAPS:
            told = causes(heap)
            self.assertIs(type(told), list)
            self.assertEqual(told, heat(heap), heap)
            self.assertEqual(told, sorted(told))

    def test_hot(self):
        for heap in HEAPS:
            self.assertEqual(hot(heap), sorted({spot for spot, cause in heat(heap)}), heap)

    def test_why(self):
        for heap in HEAPS[::5] + [CROSSED, STAR]:
            heated = heat(heap)
            near = [(x, y) for x in range(-4, 5) for y in range(-4, 5)]
            for spot in [spot for spot, cause in heated[:20]] + near:
                due = sorted(cause for caused, cause in heated if caused == spot)
                self.assertEqual(why(heap, spot), due, (heap, spot))

    def test_thirty_two_strokes(self):
        self.assertEqual(len(FULL), 32)
        crosses = [cause for spot, cause in causes(FULL) if cause[0] == "cross"]
        self.assertEqual(len(crosses), 32 * 31 // 2)

    def test_the_order_of_the_heap_tells_nothing(self):
        for heap in HEAPS:
            turned = {name: heap[name] for name in reversed(list(heap))}
            self.assertEqual(causes(turned), causes(heap))
            self.assertEqual(hot(turned), hot(heap))

    def test_the_heap_is_as_it_was_and_the_lists_are_new(self):
        for heap in HEAPS[::7]:
            before = list(heap.items())
            first = causes(heap), hot(heap), why(heap, (0, 0))
            for told in first:
                told.append("more")
            second = causes(heap), hot(heap), why(heap, (0, 0))
            for one, other in zip(first, second):
                self.assertEqual(one, other + ["more"])
            self.assertEqual(list(heap.items()), before)


if __name__ == "__main__":
    unittest.main()
