import random
import unittest

from alreadytold.boxes import Box
from alreadytold.charts import Chart
from alreadytold.charttext import box_text, chart_text, read_chart
from alreadytold.errors import BadBox, BadChart, BadText
from samples import random_chart

HALF = (1, 2)
X, A, B = ("x", 2), ("a", 2), ("bb", 3)
TEXT = "wires x:2 a:2 bb:3\nouts bb a\nbox 1 : x a > a bb : 01 10 00=1/2+12=1/2 11\nbox 9 : > x : 1"


class Writing(unittest.TestCase):
    def test_text(self):
        box = Box(1, [X, A], [A, B], [(0, 1), (1, 0), [((1, 2), HALF), ((0, 0), HALF)], (1, 1)])
        chart = Chart([X, A, B], [box, Box(9, [], [X], [(1,)])], ["bb", "a"])
        self.assertEqual(chart_text(chart), TEXT)
        self.assertEqual(box_text(box), "box 1 : x a > a bb : 01 10 00=1/2+12=1/2 11")
        self.assertEqual(read_chart(TEXT), chart)

    def test_no_outs(self):
        chart = Chart([A], [Box(0, [A], [A], [(0,), [((0,), (1, 1))]])], [])
        self.assertEqual(chart_text(chart), "wires a:2\nouts\nbox 0 : a > a : 0 0")
        self.assertEqual(read_chart(chart_text(chart)), chart)

    def test_there_and_back(self):
        rng = random.Random(2)
        for number in range(150):
            chart = random_chart(rng, chance=0.5 if number % 2 else 0.0, days=9)
            self.assertEqual(read_chart(chart_text(chart)), chart)

    def test_hundred_figures(self):
        bottom = 10 ** 99 + 7
        box = Box(0, [], [A], [[((0,), (1, bottom)), ((1,), (bottom - 1, bottom))]])
        chart = Chart([A], [box], [])
        self.assertEqual(read_chart(chart_text(chart)), chart)


class Reading(unittest.TestCase):
    def spoilt(self, row, what, text):
        with self.assertRaises(BadText) as caught:
            read_chart(text)
        self.assertEqual((caught.exception.row, caught.exception.what), (row, what), text)

    def test_row_0(self):
        for text in ["", " ", "\n", "wire a:2", " wires a:2\nouts", "Wires a:2\nouts", "outs", "box"]:
            self.spoilt(0, "word", text)
        for word in ["a", "a:1", "a:5", ":2", "a:22", "a:", "A:2", "abcdefghi:2", "a:2:2", "", "a;2", "a :2", "a:2 "]:
            self.spoilt(0, "wire", f"wires b:2 {word}\nout")
        self.spoilt(0, "wire", "wires  a:2")

    def test_row_1(self):
        self.spoilt(1, "lacking", "wires a:2")
        self.spoilt(1, "lacking", "wires")
        for row in ["", "out", " outs", "box 0 : > a : 0", "outsa"]:
            self.spoilt(1, "word", f"wires a:2\n{row}\nbox")
        for row in ["outs A", "outs a:2", "outs ", "outs  a", "outs a ", "outs abcdefghi"]:
            self.spoilt(1, "out", f"wires a:2\n{row}\nbox")

    def row(self, what, row, number=2):
        self.spoilt(number, what, "wires a:2 b:3\nouts\n" + "box 0 : > a : 0\n" * (number - 2) + row)

    def test_word(self):
        for number in (2, 3):
            for row in ["", " ", " box 0 : > b : 0", "Box 0 : > b : 0", "outs", "boxes"]:
                self.row("word", row, number)
        self.spoilt(3, "word", TEXT.split("\n")[0] + "\nouts\nbox 9 : > x : 1\n")

    def test_day(self):
        for row in ["box", "box ", "box 10 : > b : 0", "box x : > b : 0", "box -1 : > b : 0", "box  0 : > b : 0", "box :",
                    "box + : > b"]:
            self.row("day", row)

    def test_form(self):
        for row in ["box 0", "box 0 ", "box 0 > : b : 0", "box 0 a > b : 0", "box 0 :", "box 0 : a b", "box 0 : a > b",
                    "box 0 : a : 0", "box 0 : a > b 0", "box 0 : A", "box 0 :: > b : 0", "box 0 : >", "box 0 : a : >"]:
            self.row("form", row)

    def test_name(self):
        for row in ["box 0 : c > b : 0", "box 0 : a > c : 0", "box 0 :  > b : 0", "box 0 : a >  : 0", "box 0 : A > b : x",
                    "box 0 : : > b : 0", "box 0 : a > b > : 0", "box 0 : > b:3 : 0", "box 0 : a > c : x"]:
            self.row("name", row)

    def test_entry(self):
        for word in ["", "x", "0+1", "0=1/2+", "+0=1/2", "0=", "=1/2", "0=1/2=1/2", "0=2/4", "0=1/1", "0=01", "0=0/1",
                     "0=-1/2", "0=1/0", "0=1/02", "0=1/", "0=/2", "0=1/2/3", "0=0.5", "0= 1", "-1", "0,1", ":", ">",
                     "0=1/2++1=1/2", "0=+1", "0=00"]:
            self.row("entry", f"box 0 : > b : {word}")
            self.row("entry", f"box 0 : a > b : 0 {word}")
        self.row("entry", "box 0 : > b : 0 ")
        self.row("entry", "box 0 : > b :  0")

    def test_long_shares(self):
        top, bottom = "1" + "0" * 99, "1" + "0" * 98 + "1"
        word = f"0={top}/{bottom}"
        self.assertEqual(len(word), 2 + 201)
        with self.assertRaises(BadBox) as caught:
            read_chart(f"wires a:2\nouts\nbox 0 : > a : {word}")
        self.assertEqual((caught.exception.index, caught.exception.what), (0, "shares"))
        self.row("entry", f"box 0 : > a : {word}1")
        self.row("entry", "box 0 : > a : 0=" + "1" * 202)
        with self.assertRaises(BadBox):
            read_chart("wires a:2\nouts\nbox 0 : > a : 0=" + "1" * 201)

    def test_first_spoilt_row_first_word(self):
        self.spoilt(0, "wire", "wires A\nout\nboxes")
        self.spoilt(2, "day", "wires a:2\nouts\nbox q c d\nboxes")
        self.spoilt(2, "form", "wires a:2\nouts\nbox 0 c d : x\nboxes")
        self.spoilt(2, "name", "wires a:2\nouts\nbox 0 : c > d : x\nboxes")
        self.spoilt(2, "entry", "wires a:2\nouts\nbox 0 : > a : x\nboxes")
        self.spoilt(3, "word", "wires a:2\nouts\nbox 0 : > a : 7\nboxes")

    def test_left_to_the_box(self):
        for row, index, what in [("box 0 : > a : 2", 0, "entry"), ("box 0 : > a : 00", 0, "entry"),
                                 ("box 0 : a > a : 0", 0, "entries"), ("box 0 : > a :", 0, "entries"),
                                 ("box 0 : > : 0", 0, "makes"), ("box 0 : a a > a : 0", 1, "take"),
                                 ("box 0 : a > a : 0 0=1/2", 1, "shares"), ("box 0 : > a : 0=0+1=1", 0, "entry"),
                                 ("box 0 : > a : 0=3/2", 0, "entry"), ("box 0 : > a : 0=2", 0, "entry"),
                                 ("box 0 : > a : =".replace("=", "0=1/2+0=1/2"), 0, "entry")]:
            with self.assertRaises(BadBox) as caught:
                read_chart(f"wires a:2\nouts q\n{row}")
            self.assertEqual((caught.exception.index, caught.exception.what), (index, what), row)

    def test_left_to_the_chart(self):
        for text, index, what in [("wires\nouts", 0, "wires"), ("wires a:2\nouts", 0, "boxes"),
                                  ("wires a:2\nouts q\nbox 0 : > a : 0", 0, "out"),
                                  ("wires a:2\nouts\nbox 0 : > a : 0\nbox 0 : > a : 0", 1, "twice")]:
            with self.assertRaises(BadChart) as caught:
                read_chart(text)
            self.assertEqual((caught.exception.index, caught.exception.what), (index, what))

    def test_a_name_twice(self):
        # The boxes are made with the first size; then the chart refuses the wires.
        with self.assertRaises(BadChart) as caught:
            read_chart("wires a:2 a:3\nouts\nbox 0 : a > a : 0 1")
        self.assertEqual((caught.exception.index, caught.exception.what), (1, "wire"))
        with self.assertRaises(BadBox) as caught:
            read_chart("wires a:2 a:3\nouts\nbox 0 : > a : 2")
        self.assertEqual((caught.exception.index, caught.exception.what), (0, "entry"))


if __name__ == "__main__":
    unittest.main()
