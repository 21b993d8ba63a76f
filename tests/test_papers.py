"""Papers that squares are hot or cold, papers for bent rows, and their judge."""

import unittest
from functools import lru_cache

from dotmoor.errors import NoStroke
from dotmoor.papers import bend_paper, heat_paper, judge_bend, judge_heat, row_shown
from plain import heaps, heat, laid, named, strokes, walk

CROSSED = {"b": (0, 0, 2, 1), "a": (0, 1, 2, 0)}
# a meets b and c in the square of (0, 0), d goes through it and meets none of them there, e is elsewhere.
THICK = {"a": (-3, 0, 3, 0), "b": (0, -1, 1, 2), "c": (0, -1, -1, 2), "d": (1, -1, -1, 1), "e": (7, 7, 9, 8)}
LINED = {"a": (0, 0, 6, 0), "b": (2, 0, 8, 0), "c": (8, 0, -1, 0)}
STRANGE = {"": (0, 0, 4, 2), "cold": (0, 2, 4, 0), "a b": (2, -3, 2, 5), "end": (3, 3, 1, -1), "~": (9, 9, 8, 8)}
HEAPS = heaps()[::3] + [{}, CROSSED, THICK, LINED, STRANGE, named(strokes(51, 16, 9)), named(strokes(52, 32, 25))]


@lru_cache(maxsize=None)
def squares_of(stroke):
    return frozenset(walk(stroke))


@lru_cache(maxsize=None)
def causes_of(strokes_by_names):
    """The causes of a heap, of its pairs, by spots."""
    found = {}
    for spot, cause in heat(dict(strokes_by_names)):
        found.setdefault(spot, []).append(cause)
    return found


def through_it(heap, spot):
    return tuple(sorted(name for name in heap if spot in squares_of(heap[name])))


def near(heap):
    """The squares of all strokes, and some about."""
    found = {spot for stroke in heap.values() for spot in walk(stroke)[:40]}
    return sorted(found | {(x, y) for x in range(-2, 3) for y in range(-2, 3)})


def right_papers(heap, spot):
    """All papers about a square that are right."""
    return causes_of(tuple(heap.items())).get(spot) or [("cold", through_it(heap, spot))]


def all_papers(heap, spot):
    """Papers about a square of which most are wrong: strange ones, and right ones spoilt."""
    names = sorted(heap) + ["zz", "none such", "\n"]
    found = [("end", name, which) for name in names for which in (0, 1)]
    found += [("cross", name, other) for name in names for other in names]
    through = through_it(heap, spot)
    found += [("cold", through), ("cold", through[::-1]), ("cold", through[1:]), ("cold", through[:-1]), ("cold", ())]
    found += [("cold", through + through[-1:]), ("cold", through + ("zz",)), ("cold", ("",) + through)]
    found += [("cold", through[:at] + through[at + 1:]) for at in range(len(through))]
    found += [("cold", tuple(sorted(through + (name,)))) for name in names]
    found += [("cold", tuple(sorted(heap)))]
    return found


class Heat(unittest.TestCase):
    def test_written_out(self):
        self.assertEqual(heat_paper(CROSSED, (1, 1)), ("cross", "a", "b"))
        self.assertEqual(heat_paper(CROSSED, (0, 0)), ("end", "b", 0))
        self.assertEqual(heat_paper(CROSSED, (2, 0)), ("end", "a", 1))
        self.assertEqual(heat_paper(CROSSED, (1, 0)), ("cold", ("a", "b")))
        self.assertEqual(heat_paper(CROSSED, (7, 7)), ("cold", ()))
        self.assertEqual(heat_paper({}, (0, 0)), ("cold", ()))
        self.assertEqual(heat_paper(LINED, (4, 0)), ("cold", ("a", "b", "c")))
        self.assertIn(heat_paper(THICK, (0, 0)), [("cross", "a", "b"), ("cross", "a", "c"), ("cross", "a", "d")])

    def test_each_told_paper_is_right(self):
        for heap in HEAPS:
            for spot in near(heap)[::2]:
                told = heat_paper(heap, spot)
                self.assertIn(told, right_papers(heap, spot))
                self.assertIs(judge_heat(heap, spot, told), True, (heap, spot, told))
                self.assertIs(type(told), tuple)

    def test_names_that_are_no_letters(self):
        self.assertEqual(heat_paper(STRANGE, (2, 5)), ("end", "a b", 1))
        self.assertEqual(heat_paper(STRANGE, (3, 1)), ("cold", ("", "cold")))
        self.assertEqual(heat_paper(STRANGE, (1, 2)), ("cold", ("cold",)))
        self.assertIs(judge_heat(STRANGE, (2, 1), ("cross", "", "a b")), True)
        self.assertIs(judge_heat(STRANGE, (2, 1), ("cross", "a b", "")), False)
        self.assertIs(judge_heat(STRANGE, (0, 0), ("end", "", 0)), True)
        self.assertIs(judge_heat(STRANGE, (3, 3), ("end", "end", 0)), True)

    def test_the_judge_takes_each_right_paper_and_no_other_one(self):
        for heap in [heap for heap in HEAPS if len(heap) < 10]:
            for spot in near(heap)[::5]:
                right = right_papers(heap, spot)
                for paper in all_papers(heap, spot) + right:
                    self.assertIs(judge_heat(heap, spot, paper), paper in right, (heap, spot, paper))

    def test_each_right_paper_of_hot_squares(self):
        for heap in HEAPS:
            for spot, cause in heat(heap):
                self.assertIs(judge_heat(heap, spot, cause), True)
                x, y = spot
                for beside in ((x + 1, y), (x, y - 1)):
                    self.assertIs(judge_heat(heap, beside, cause), False)

    def test_spoilt_causes(self):
        for paper in (("cross", "b", "a"), ("cross", "a", "a"), ("cross", "b", "b"), ("cross", "a", "c"),
                      ("cross", "", "a"), ("end", "a", 0), ("end", "a", 1), ("end", "c", 0), ("cold", ("a", "b")),
                      ("cold", ()), ("cold", ("a",)), ("cold", ("b",)), ("cold", ("b", "a"))):
            self.assertIs(judge_heat(CROSSED, (1, 1), paper), False, paper)
        self.assertIs(judge_heat(CROSSED, (0, 0), ("end", "b", 1)), False)
        self.assertIs(judge_heat({}, (0, 0), ("end", "b", 1)), False)
        self.assertIs(judge_heat({}, (0, 0), ("cross", "a", "b")), False)
        self.assertIs(judge_heat({}, (0, 0), ("cold", ("a",))), False)
        self.assertIs(judge_heat({}, (0, 0), ("cold", ())), True)

    def test_strokes_along_one_another_leave_a_square_cold(self):
        self.assertIs(judge_heat(LINED, (4, 0), ("cold", ("a", "b", "c"))), True)
        self.assertIs(judge_heat(LINED, (4, 0), ("cross", "a", "b")), False)
        self.assertIs(judge_heat(LINED, (4, 0), ("cold", ("a", "c", "b"))), False)
        self.assertIs(judge_heat(LINED, (4, 0), ("cold", ("a", "b"))), False)
        self.assertIs(judge_heat(LINED, (2, 0), ("cold", ("a", "b", "c"))), False)

    def test_an_end_of_one_and_a_meeting_of_others_forbid_cold(self):
        self.assertIs(judge_heat(THICK, (0, 0), ("cold", ("a", "b", "c", "d"))), False)
        one = {"a": (0, 0, 5, 0), "b": (2, 3, 2, 0)}
        self.assertIs(judge_heat(one, (2, 0), ("cold", ("a", "b"))), False)
        self.assertIs(judge_heat(one, (2, 1), ("cold", ("b",))), True)

    def test_the_heap_is_as_it_was(self):
        before = list(CROSSED.items())
        heat_paper(heap=CROSSED, spot=(1, 1))
        judge_heat(heap=CROSSED, spot=(1, 1), paper=("cold", ()))
        self.assertEqual(list(CROSSED.items()), before)


class Bend(unittest.TestCase):
    def test_written_out(self):
        self.assertEqual(bend_paper(CROSSED, "b"), [((0, 0), ("end", "b", 0)), ((1, 0), ("cold", ("a", "b"))),
                                                    ((1, 1), ("cross", "a", "b")), ((2, 1), ("end", "b", 1))])
        self.assertEqual(row_shown(bend_paper(CROSSED, "b")), [(0, 0), (1, 1), (2, 1)])

    def each(self):
        for heap in HEAPS:
            for name in sorted(heap)[:6]:
                yield heap, name, bend_paper(heap, name)

    def test_each_told_paper_is_right(self):
        for heap, name, told in self.each():
            self.assertIs(type(told), list)
            self.assertEqual({type(pair) for pair in told}, {tuple})
            self.assertEqual([spot for spot, paper in told], walk(heap[name]))
            for spot, paper in told:
                self.assertIn(paper, right_papers(heap, spot))
            self.assertIsNone(judge_bend(heap, name, told))
            self.assertIsNone(judge_bend(heap, name, tuple(told)))

    def test_they_show_the_bent_row(self):
        for heap, name, told in self.each():
            self.assertEqual(row_shown(told), laid(heap)[name])

    def test_each_right_paper_in_its_place(self):
        for heap, name, told in self.each():
            for at, (spot, paper) in list(enumerate(told))[:12]:
                for other in right_papers(heap, spot):
                    self.assertIsNone(judge_bend(heap, name, told[:at] + [(spot, other)] + told[at + 1:]))

    def test_a_pair_out(self):
        for heap, name, told in self.each():
            for at in range(min(len(told), 12)):
                self.assertEqual(judge_bend(heap, name, told[:at] + told[at + 1:]), at)
            self.assertEqual(judge_bend(heap, name, told[:-1]), len(told) - 1)
            self.assertEqual(judge_bend(heap, name, []), 0)
            self.assertEqual(judge_bend(heap, name, ()), 0)

    def test_a_pair_twice(self):
        for heap, name, told in self.each():
            for at in range(min(len(told), 12)):
                self.assertEqual(judge_bend(heap, name, told[:at + 1] + told[at:]), at + 1)

    def test_pairs_exchanged(self):
        for heap, name, told in self.each():
            for at in range(min(len(told) - 1, 12)):
                spoilt = told[:at] + [told[at + 1], told[at]] + told[at + 2:]
                self.assertEqual(judge_bend(heap, name, spoilt), at)

    def test_another_spot(self):
        for heap, name, told in self.each():
            for at, ((x, y), paper) in list(enumerate(told))[:12]:
                for spot in ((x + 1, y), (x, y - 1), (y + 50, x)):
                    self.assertEqual(judge_bend(heap, name, told[:at] + [(spot, paper)] + told[at + 1:]), at)

    def test_another_paper(self):
        for heap, name, told in self.each():
            for at, (spot, paper) in list(enumerate(told))[:6]:
                for wrong in [("cold", ("zz",)), ("end", "zz", 0), ("cross", "", "zz"), ("cold", ())]:
                    self.assertEqual(judge_bend(heap, name, told[:at] + [(spot, wrong)] + told[at + 1:]), at)

    def test_one_behind_the_last(self):
        for heap, name, told in self.each():
            x, y = told[-1][0]
            for spot in ((x, y), (x + 1, y), (x + 1, y + 1)):
                more = told + [(spot, heat_paper(heap, spot))]
                self.assertEqual(judge_bend(heap, name, more), len(told))
                self.assertEqual(judge_bend(heap, name, more + more), len(told))

    def test_the_first_of_several_that_are_not_right(self):
        told = bend_paper(CROSSED, "b")
        wrong = ("cold", ("zz",))
        spoilt = [told[0], (told[1][0], wrong), told[2], (told[3][0], wrong), told[3]]
        self.assertEqual(judge_bend(CROSSED, "b", spoilt), 1)
        self.assertEqual(judge_bend(CROSSED, "b", told[:2] + spoilt[3:]), 2)

    def test_the_paper_of_another_stroke(self):
        self.assertEqual(judge_bend(CROSSED, "a", bend_paper(CROSSED, "b")), 0)

    def test_no_stroke(self):
        for heap, name in (({}, "a"), (CROSSED, "c"), (CROSSED, ""), (STRANGE, "a")):
            for call in (lambda: bend_paper(heap, name), lambda: judge_bend(heap, name, []),
                         lambda: judge_bend(heap, name, [((0, 0), ("cold", ()))])):
                with self.assertRaises(NoStroke) as caught:
                    call()
                self.assertEqual(vars(caught.exception), {"word": "NoStroke", "name": name})

    def test_what_is_handed_in_is_as_it_was_and_what_is_told_is_new(self):
        handed = bend_paper(CROSSED, "b")
        before = list(handed)
        judge_bend(CROSSED, "b", handed)
        row_shown(handed).clear()
        self.assertEqual(handed, before)
        handed.clear()
        self.assertEqual(bend_paper(CROSSED, "b"), before)

    def test_by_names(self):
        told = bend_paper(name="b", heap=CROSSED)
        self.assertIsNone(judge_bend(rows=told, name="b", heap=CROSSED))
        self.assertEqual(row_shown(rows=told), [(0, 0), (1, 1), (2, 1)])


class Shown(unittest.TestCase):
    def test_none(self):
        self.assertEqual(row_shown([]), [])
        self.assertEqual(row_shown(()), [])

    def test_of_papers_right_or_not(self):
        handed = [((9, 9), ("end", "zz", 1)), ((0, 0), ("cold", ("end",))), ((9, 9), ("cross", "b", "a")),
                  ((1, 1), ("cold", ())), ((9, 9), ("end", "cold", 0)), ((0, 0), ("cross", "cold", "cold"))]
        self.assertEqual(row_shown(handed), [(9, 9), (9, 9), (9, 9), (0, 0)])
        self.assertEqual(row_shown(tuple(handed[::-1])), [(0, 0), (9, 9), (9, 9), (9, 9)])
        self.assertIs(type(row_shown(tuple(handed))), list)


if __name__ == "__main__":
    unittest.main()
