"""Pages: moors written and read, and texts that are no pages."""

import random
import unittest

from dotmoor.errors import BadText
from dotmoor.moor import Moor
from dotmoor.pages import page, read_page
from plain import strokes
from plainmoors import PlainMoor

TEXT = """drawing a
stroke ab 0 0 3 1 2
stroke b -40 40 40 -40 -3
drawing abc
drawing b
stroke b 0 -1 10 0 0
stroke c 1 1 2 2 1"""
ROWS = TEXT.split("\n")


def filled(*names):
    told = Moor()
    for name in names:
        told.do(("new", name))
    return told


def some(seed):
    """A moor by chance, and a plain one that is alike."""
    source = random.Random(seed)
    told, due = Moor(), PlainMoor()
    for name in source.sample(["a", "b", "c", "ab", "abcdef", "zzzzzz", "ba"], source.randint(0, 6)):
        deeds = [("new", name)]
        names = source.sample(["x" + letter for letter in "abcdefghijklmnopqrst"] + ["x"], source.randint(0, 16))
        for stroke, numbers in zip(names, strokes(seed, len(names), 40)):
            deeds.append(("put", name, stroke, numbers, source.randint(-3, 3)))
        told.together(deeds)
        due.together(deeds)
    return told, due


class Written(unittest.TestCase):
    def test_of_no_drawing(self):
        self.assertEqual(page(Moor()), "")

    def test_of_empty_drawings(self):
        self.assertEqual(page(filled("a")), "drawing a")
        self.assertEqual(page(filled("b", "abc", "a")), "drawing a\ndrawing abc\ndrawing b")

    def test_of_several(self):
        told = filled("b", "a", "abc")
        for deed in (("put", "b", "c", (1, 1, 2, 2), 1), ("put", "a", "b", (-40, 40, 40, -40), -3),
                     ("put", "a", "ab", (0, 0, 3, 1), 2), ("put", "b", "b", (0, -1, 10, 0), 0)):
            told.do(deed)
        told.row_of("a", "b")
        before = (told.depth(), told.kept("a"))
        self.assertEqual(page(moor=told), TEXT)
        self.assertEqual((told.depth(), told.kept("a")), before)

    def test_by_chance(self):
        for seed in range(30):
            told, due = some(seed)
            self.assertEqual(page(told), due.page())


class Read(unittest.TestCase):
    def test_of_no_drawing(self):
        told = read_page("")
        self.assertIs(type(told), Moor)
        self.assertEqual((told.names(), told.depth()), ([], (0, 0)))

    def test_of_several(self):
        told = read_page(TEXT)
        self.assertEqual({name: told.drawing(name).loaded() for name in told.names()}, {
            "a": {"ab": ((0, 0, 3, 1), 2), "b": ((-40, 40, 40, -40), -3)},
            "abc": {},
            "b": {"b": ((0, -1, 10, 0), 0), "c": ((1, 1, 2, 2), 1)},
        })
        self.assertEqual(told.depth(), (0, 0))
        self.assertEqual([told.kept(name) for name in told.names()], [[], [], []])
        self.assertEqual(page(told), TEXT)

    def test_it_is_led_on(self):
        told = read_page(text=TEXT)
        told.do(("wipe", "a"))
        self.assertEqual(told.depth(), (1, 0))
        told.undo()
        self.assertEqual(page(told), TEXT)
        self.assertTrue(told == read_page(TEXT))

    def test_by_chance(self):
        for seed in range(30):
            told = some(seed)[0]
            read = read_page(page(told))
            self.assertTrue(read == told)
            self.assertEqual(page(read), page(told))
            self.assertEqual(read.depth(), (0, 0))

    def test_made_for_so_many(self):
        text = "\n".join("drawing " + name for name in "abcdef")
        self.assertEqual(len(read_page(text)), 6)
        for most in range(1, 7):
            told = read_page("\n".join(text.split("\n")[:most]), most=most)
            self.assertEqual(len(told), most)
            with self.assertRaises(Exception) as caught:
                told.do(("new", "g"))
            self.assertEqual(vars(caught.exception), {"word": "Full", "most": most})

    def test_texts_read_apart(self):
        one, other = read_page(TEXT), read_page(TEXT)
        one.do(("wipe", "a"))
        self.assertEqual(len(other), 3)

    def test_most_goes_by_its_name_alone(self):
        with self.assertRaises(TypeError):
            read_page(TEXT, 3)


class NoPage(unittest.TestCase):
    def refuses(self, at, text, **named):
        with self.assertRaises(BadText) as caught:
            read_page(text, **named)
        self.assertEqual(vars(caught.exception), {"word": "BadText", "at": at}, text)

    def changed(self, at, row):
        """The text with another row, which is refused."""
        self.refuses(at, "\n".join(ROWS[:at] + [row] + ROWS[at + 1:]))

    def test_one_drawing_more(self):
        rows = ["drawing " + name for name in "abcdefg"]
        self.refuses(6, "\n".join(rows))
        for most in range(1, 7):
            self.refuses(most, "\n".join(rows), most=most)
        self.refuses(4, TEXT, most=2)
        self.refuses(3, TEXT, most=1)

    def test_one_stroke_more(self):
        rows = ["drawing a"] + [f"stroke x{letter} 0 0 1 1 0" for letter in "abcdefghijklmnopq"]
        self.assertEqual(len(read_page("\n".join(rows[:17])).drawing("a")), 16)
        self.refuses(17, "\n".join(rows))

    def test_a_row_end_behind(self):
        self.refuses(7, TEXT + "\n")
        self.refuses(7, TEXT + "\n\n")
        self.refuses(1, "drawing a\n")
        self.refuses(0, "\n")
        self.refuses(0, "\n" + TEXT)
        self.refuses(0, "\n\n\n")
        self.refuses(3, "\n".join(ROWS[:3] + [""] + ROWS[3:]))

    def test_rows_out(self):
        self.refuses(0, "\n".join(ROWS[1:]))
        # The strokes of b would be of abc: that is a page.
        self.assertEqual(read_page("\n".join(ROWS[:4] + ROWS[5:])).drawing("abc").names(), ["b", "c"])
        self.refuses(3, "\n".join(ROWS[:3] + ROWS[5:]))

    def test_rows_twice(self):
        for at in range(len(ROWS)):
            self.refuses(at + 1, "\n".join(ROWS[:at + 1] + ROWS[at:]))

    def test_rows_exchanged(self):
        self.refuses(0, "\n".join([ROWS[1], ROWS[0]] + ROWS[2:]))
        self.refuses(2, "\n".join(ROWS[:1] + [ROWS[2], ROWS[1]] + ROWS[3:]))
        self.refuses(4, "\n".join(ROWS[:3] + [ROWS[4], ROWS[3]] + ROWS[5:]))
        self.refuses(6, "\n".join(ROWS[:5] + [ROWS[6], ROWS[5]]))

    def test_strokes_ahead_of_the_first_drawing(self):
        self.refuses(0, "stroke a 0 0 1 1 1")
        self.refuses(0, "stroke a 0 0 1 1 1\ndrawing a")

    def test_rows_that_do_not_rise(self):
        self.refuses(1, "drawing b\ndrawing a")
        self.refuses(1, "drawing a\ndrawing a")
        self.refuses(2, "drawing a\ndrawing b\ndrawing ab")
        self.refuses(2, "drawing a\nstroke b 0 0 1 1 1\nstroke a 0 0 1 1 1")
        self.refuses(2, "drawing a\nstroke b 0 0 1 1 1\nstroke ab 0 0 1 1 1")
        self.refuses(2, "drawing a\nstroke b 0 0 1 1 1\nstroke b 2 2 1 1 1")
        self.refuses(2, "drawing a\nstroke b 0 0 1 1 1\ndrawing a")

    def test_strokes_rise_within_one_drawing(self):
        text = "drawing a\nstroke z 0 0 1 1 1\ndrawing b\nstroke a 0 0 1 1 1"
        self.assertEqual(page(read_page(text)), text)
        # And the name of a stroke has nothing to do with that of its drawing.
        text = "drawing z\nstroke a 0 0 1 1 1\nstroke z 0 0 1 1 1"
        self.assertEqual(page(read_page(text)), text)

    def test_needless_noughts_and_signs(self):
        for number in ("00", "01", "-0", "-01", "+1", "--1", "-", "", "1-", "1.0", "0x1", "1e1", "1_0", "a", "00000"):
            for at in range(2, 7):
                words = ROWS[1].split(" ")
                words[at] = number
                self.changed(1, " ".join(words))

    def test_blanks(self):
        for row in (" drawing a", "drawing a ", "drawing  a", "drawing", "drawing ", "drawin a", "drawing a b", "",
                    " ", "Drawing a", "drawinga", "drawing a 0 0 1 1 1", "stroke"):
            self.changed(0, row)
        for row in (" stroke ab 0 0 3 1 2", "stroke ab 0 0 3 1 2 ", "stroke  ab 0 0 3 1 2", "stroke ab  0 0 3 1 2",
                    "stroke ab 0 0 3 1  2", "stroke ab 0 0 3 1", "stroke ab 0 0 3 1 2 2", "stroke 0 0 3 1 2",
                    "stroke  0 0 3 1 2", "stroke", "strokes ab 0 0 3 1 2", "Stroke ab 0 0 3 1 2", "put ab 0 0 3 1 2",
                    "stroke ab (0, 0, 3, 1) 2", "stroke ab 0,0,3,1 2", "stroke ab 0 0 3 1 two"):
            self.changed(1, row)

    def test_names(self):
        for name in ("A", "abcdefg", "a1", "1", "-", "a-b", "_"):
            self.changed(0, "drawing " + name)
            self.changed(1, f"stroke {name} 0 0 3 1 2")

    def test_numbers_that_are_refused(self):
        for at in range(2, 6):
            for number in ("41", "-41", "999999999", "9999999999", "1" + "0" * 5000, "-" + "9" * 5000):
                words = ROWS[1].split(" ")
                words[at] = number
                self.changed(1, " ".join(words))
        for weight in ("4", "-4", "999999999", "9" * 5000):
            self.changed(1, "stroke ab 0 0 3 1 " + weight)
        self.changed(1, "stroke ab 3 1 3 1 2")

    def test_the_first_row_that_is_not_right(self):
        self.refuses(1, "drawing a\nstroke A 0 0 1 1 1\ndrawing A\n")
        self.refuses(2, "\n".join(ROWS[:2] + ["stroke b 0 0 99 0 1", "drawing 1"]))

    def test_other_texts(self):
        for text in ("a", " ", "drawing", "Moor(a)", "~", "drawing a;drawing b", "# drawing a"):
            self.refuses(0, text)

    def test_each_text_with_one_sign_changed_is_a_page_or_none(self):
        source = random.Random(1)
        for time in range(1500):
            at = source.randrange(len(TEXT))
            sign = source.choice("ab zA0123-9\n")
            head, tail = TEXT[:at], TEXT[at + 1:]
            text = source.choice((head + sign + tail, head + tail, head + sign + TEXT[at] + tail))
            try:
                told = read_page(text)
            except BadText as refused:
                self.assertLess(refused.at, len(text.split("\n")))
                # What stands ahead of the first wrong row is a page of its own.
                ahead = "\n".join(text.split("\n")[:refused.at])
                self.assertEqual(page(read_page(ahead)), ahead)
            else:
                self.assertEqual(page(told), text)


if __name__ == "__main__":
    unittest.main()
