"""Laying: bent rows, their pieces, rows laid again, and rows at rest."""

import unittest

from dotmoor.errors import BadWay
from dotmoor.laying import at_rest, laid_again, pieces, rest, rows
from plain import HALF, again, ends, heaps, laid, named, strokes, within

WAYS = ("all", "walk", "halves")
CROSSED = {"b": (0, 0, 2, 1), "a": (0, 1, 2, 0)}
STILL = {"b": (0, 0, 4, 4), "a": (0, 4, 4, 0)}
# The step of b from (1, 2) to (2, 1) goes by the corner of the square of (2, 2), through which b itself doesn't go.
TWICE = {"a": (2, 2, 0, 1), "b": (0, 2, 2, 1)}
THRICE = {"a": (2, 2, 0, 1), "b": (4, 0, 0, 2), "c": (3, 2, 3, 0)}
FOUR_TIMES = {"a": (0, 2, 1, 2), "b": (4, 2, 2, 2), "c": (1, 3, 4, 1), "d": (0, 2, 4, 0)}
HEAPS = heaps() + [{}, CROSSED, STILL, TWICE, THRICE, FOUR_TIMES, named(strokes(21, 32, 40)), named(strokes(22, 32, 10))]


def rested(heap):
    """The rows at rest and the rounds, as the document tells them."""
    told, rounds = laid(heap), 1
    while again(told) != told:
        told, rounds = again(told), rounds + 1
    return told, rounds


class Rows(unittest.TestCase):
    def test_the_empty_heap(self):
        self.assertEqual(rows({}), {})
        for way in WAYS:
            self.assertEqual(rows({}, way=way), {})

    def test_one_stroke(self):
        self.assertEqual(rows({"a": (5, 0, -2, 3)}), {"a": [(5, 0), (-2, 3)]})

    def test_two_that_cross(self):
        told = rows(CROSSED)
        self.assertEqual(told, {"a": [(0, 1), (1, 1), (2, 0)], "b": [(0, 0), (1, 1), (2, 1)]})

    def test_a_row_goes_through_the_hot_squares_of_others(self):
        heap = {"a": (0, 0, 6, 1), "b": (2, 0, 2, -3), "c": (4, 1, 4, 5), "d": (3, -1, 3, -2)}
        self.assertEqual(rows(heap)["a"], [(0, 0), (2, 0), (4, 1), (6, 1)])

    def test_each_way(self):
        for heap in HEAPS:
            due = laid(heap)
            self.assertEqual(rows(heap), due, heap)
            for way in WAYS:
                self.assertEqual(rows(heap, way=way), due, (heap, way))

    def test_kinds_and_names_rising(self):
        heap = {"b": (0, 0, 1, 1), "ab": (2, 0, 1, 1), "B": (5, 5, 4, 4), "": (7, 7, 8, 8), "a": (3, 3, 2, 0)}
        told = rows(heap)
        self.assertIs(type(told), dict)
        self.assertEqual(list(told), ["", "B", "a", "ab", "b"])
        for row in told.values():
            self.assertIs(type(row), list)
            self.assertEqual({type(spot) for spot in row}, {tuple})

    def test_other_ways_are_refused(self):
        for heap in ({}, CROSSED):
            for way in ("", "All", "walk ", "both", "first"):
                with self.assertRaises(BadWay) as caught:
                    rows(heap, way=way)
                self.assertEqual(vars(caught.exception), {"word": "BadWay", "way": way})

    def test_the_heap_is_as_it_was_and_what_is_told_is_new(self):
        before = list(CROSSED.items())
        for way in WAYS:
            told = rows(CROSSED, way=way)
            told["a"].append((7, 7))
            told["c"] = []
            self.assertEqual(rows(CROSSED, way=way), laid(CROSSED))
        self.assertEqual(list(CROSSED.items()), before)

    def test_the_same_stroke_under_two_names_has_two_lists(self):
        told = rows({"a": (0, 0, 3, 1), "b": (0, 0, 3, 1)})
        told["a"].append((7, 7))
        self.assertEqual(told["b"], [(0, 0), (3, 1)])

    def test_by_names_and_way_by_its_name_alone(self):
        self.assertEqual(rows(way="walk", heap=CROSSED), laid(CROSSED))
        with self.assertRaises(TypeError):
            rows(CROSSED, "walk")


class Pieces(unittest.TestCase):
    def test_none(self):
        self.assertEqual(pieces({}), [])
        self.assertEqual(pieces({"a": []}), [])
        self.assertEqual(pieces({"a": [(1, 1)]}), [])

    def test_two_that_cross(self):
        due = [((0, 0), (1, 1)), ((0, 1), (1, 1)), ((1, 1), (2, 0)), ((1, 1), (2, 1))]
        self.assertEqual(pieces(rows(CROSSED)), due)

    def test_the_lesser_spot_first_and_each_once(self):
        due = [((-1, 5), (0, 0)), ((0, 0), (0, 1))]
        self.assertEqual(pieces({"b": [(0, 1), (0, 0), (-1, 5)], "a": [(0, 0), (0, 1)]}), due)
        self.assertEqual(pieces({"b": ((0, 1), (0, 0), (-1, 5)), "a": ((0, 1), (0, 0))}), due)

    def test_many(self):
        for heap in HEAPS:
            told = rows(heap)
            steps = [step for row in told.values() for step in zip(row, row[1:])]
            self.assertEqual(pieces(told), sorted({tuple(sorted(step)) for step in steps}))

    def test_kinds(self):
        told = pieces(laid=rows(CROSSED))
        self.assertIs(type(told), list)
        self.assertEqual({type(piece) for piece in told}, {tuple})

    def test_the_rows_are_as_they_were_and_the_list_is_new(self):
        handed = rows(CROSSED)
        pieces(handed).clear()
        self.assertEqual(handed, laid(CROSSED))
        self.assertEqual(len(pieces(handed)), 4)


class LaidAgain(unittest.TestCase):
    def test_none(self):
        self.assertEqual(laid_again({}), {})

    def test_written_out(self):
        first = {"a": [(2, 2), (1, 2), (0, 1)], "b": [(0, 2), (1, 2), (2, 1)]}
        second = {"a": [(2, 2), (1, 2), (0, 1)], "b": [(0, 2), (1, 2), (2, 2), (2, 1)]}
        self.assertEqual(rows(TWICE), first)
        self.assertEqual(laid_again(first), second)
        self.assertEqual(laid_again(second), second)

    def test_no_square_but_those_of_the_rows_counts(self):
        self.assertEqual(laid_again({"a": [(0, 0), (5, 2)]}), {"a": [(0, 0), (5, 2)]})
        handed = {"a": [(0, 0), (5, 2)], "b": [(2, 1), (2, 7)], "c": [(3, 2), (3, 1)]}
        self.assertEqual(laid_again(handed)["a"], [(0, 0), (2, 1), (3, 1), (5, 2)])

    def test_names_in_the_same_order(self):
        handed = {"b": [(0, 0), (1, 0)], "c": [(0, 0), (0, 1)], "a": [(0, 1), (0, 0)]}
        self.assertEqual(list(laid_again(handed)), ["b", "c", "a"])

    def test_rows_that_are_tuples(self):
        handed = {"a": ((2, 2), (1, 2), (0, 1)), "b": ((0, 2), (1, 2), (2, 1))}
        told = laid_again(handed)
        self.assertEqual(told["b"], [(0, 2), (1, 2), (2, 2), (2, 1)])
        self.assertEqual({type(row) for row in told.values()}, {list})
        self.assertEqual(handed["b"], ((0, 2), (1, 2), (2, 1)))

    def test_many(self):
        for heap in HEAPS:
            told = rows(heap)
            self.assertEqual(laid_again(told), again(told), heap)

    def test_the_rows_are_as_they_were_and_what_is_told_is_new(self):
        handed = rows(TWICE)
        told = laid_again(laid=handed)
        told["a"].clear()
        told["b"].clear()
        self.assertEqual(handed, laid(TWICE))
        self.assertEqual(laid_again(handed), again(handed))


class AtRest(unittest.TestCase):
    def test_none(self):
        self.assertIs(at_rest({}), True)

    def test_written_out(self):
        self.assertIs(at_rest(rows(STILL)), True)
        self.assertIs(at_rest(rows(TWICE)), False)
        self.assertIs(at_rest(laid_again(rows(TWICE))), True)
        self.assertIs(at_rest(laid=laid_again(rows(THRICE))), False)

    def test_one_row_of_many_is_enough(self):
        handed = {"a": [(9, 9), (8, 9)], **rows(TWICE), "c": [(9, 9), (8, 9)]}
        self.assertIs(at_rest(handed), False)

    def test_rows_that_are_tuples(self):
        for heap in (STILL, TWICE, THRICE):
            handed = {name: tuple(row) for name, row in rows(heap).items()}
            before = dict(handed)
            self.assertIs(at_rest(handed), at_rest(rows(heap)))
            self.assertEqual(handed, before)

    def test_many(self):
        for heap in HEAPS:
            told = rows(heap)
            self.assertIs(at_rest(told), again(told) == told)

    def test_the_rows_are_as_they_were(self):
        handed = rows(TWICE)
        at_rest(handed)
        self.assertEqual(handed, laid(TWICE))


class Rest(unittest.TestCase):
    def test_the_empty_heap(self):
        self.assertEqual(rest({}), ({}, 1))

    def test_a_heap_that_rests_at_once(self):
        self.assertEqual(rest(STILL), ({"a": [(0, 4), (2, 2), (4, 0)], "b": [(0, 0), (2, 2), (4, 4)]}, 1))
        self.assertEqual(rest({"a": (0, 0, 5, 3)}), ({"a": [(0, 0), (5, 3)]}, 1))

    def test_twice(self):
        due = {"a": [(2, 2), (1, 2), (0, 1)], "b": [(0, 2), (1, 2), (2, 2), (2, 1)]}
        self.assertEqual(rest(TWICE), (due, 2))

    def test_thrice(self):
        due = {
            "a": [(2, 2), (1, 2), (0, 1)],
            "b": [(4, 0), (3, 0), (3, 1), (3, 2), (2, 2), (1, 2), (0, 2)],
            "c": [(3, 2), (3, 1), (3, 0)],
        }
        self.assertEqual(rest(THRICE), (due, 3))

    def test_four_times(self):
        due = {
            "a": [(0, 2), (1, 2)],
            "b": [(4, 2), (3, 2), (2, 2)],
            "c": [(1, 3), (2, 2), (3, 2), (4, 2), (4, 1)],
            "d": [(0, 2), (1, 2), (2, 2), (3, 2), (4, 2), (4, 1), (4, 0)],
        }
        self.assertEqual(rest(FOUR_TIMES), (due, 4))

    def test_many(self):
        counted = set()
        for heap in HEAPS:
            told, rounds = rest(heap)
            counted.add(rounds)
            self.assertEqual((told, rounds), rested(heap), heap)
            self.assertIs(at_rest(told), True)
            self.assertEqual(list(told), sorted(heap))
        self.assertGreaterEqual(len(counted), 4)

    def test_so_many_halves_from_the_stroke(self):
        for heap in HEAPS:
            told, rounds = rows(heap), 1
            while not at_rest(told):
                told, rounds = laid_again(told), rounds + 1
            for name, row in told.items():
                self.assertEqual((row[0], row[-1]), ends(heap[name]))
                for (x, y), (x2, y2) in zip(row, row[1:]):
                    # What lies so near to a stroke has no dents, so that the ends of a step speak for all of it.
                    self.assertTrue(within(heap[name], (x, y), rounds * HALF))
                    self.assertTrue(within(heap[name], (x2, y2), rounds * HALF))

    def test_kinds_and_names_rising(self):
        told = rest(heap={"b": (0, 0, 1, 1), "a": (1, 0, 0, 1)})
        self.assertEqual([type(told), type(told[0]), type(told[1])], [tuple, dict, int])
        self.assertEqual(list(told[0]), ["a", "b"])

    def test_the_heap_is_as_it_was_and_what_is_told_is_new(self):
        before = list(THRICE.items())
        told = rest(THRICE)[0]
        for row in told.values():
            row.clear()
        self.assertEqual(rest(THRICE), rested(THRICE))
        self.assertEqual(list(THRICE.items()), before)


if __name__ == "__main__":
    unittest.main()
