"""Points 24 and 25, with 15, and the interface of sumwires.nettext."""

import unittest

from reckon import draw, drawn_lists
from sumwires.errors import BadLine, BadName, Doubled, NoWire, Ring, TooMany, WireError
from sumwires.nets import Net
from sumwires.nettext import read_net, show_net

TEXT = "in a\nin b\nsum n = a s a\nsum z =\nstore s = n\nstore t = s\nout n\nout t\nout n"
LISTS = (["a", "b"], [("n", ("a", "s", "a")), ("z", ())], [("s", "n"), ("t", "s")], ["n", "t", "n"])


class ShowTest(unittest.TestCase):
    def test_rows_in_order(self):
        self.assertEqual(show_net(Net(*LISTS)), TEXT)

    def test_the_empty_net(self):
        self.assertEqual(show_net(Net([], [], [], [])), "")

    def test_one_row(self):
        self.assertEqual(show_net(Net(["a"], [], [], [])), "in a")
        self.assertEqual(show_net(Net([], [("n", [])], [], [])), "sum n =")
        self.assertEqual(show_net(Net([], [], [("s", "s")], [])), "store s = s")

    def test_sums_stay_in_the_order_of_their_list(self):
        net = Net([], [("m", ["n"]), ("n", [])], [], [])
        self.assertEqual(show_net(net), "sum m = n\nsum n =")


class ReadTest(unittest.TestCase):
    def test_a_text(self):
        net = read_net(TEXT)
        self.assertIsInstance(net, Net)
        self.assertEqual(net.told(), LISTS)

    def test_the_empty_text(self):
        self.assertEqual(read_net("").told(), ([], [], [], []))

    def test_rows_in_any_order(self):
        rows = TEXT.split("\n")
        kinds = ("in", "sum", "store", "out")
        for seed in range(40):
            draw(seed).shuffle(rows)
            told = read_net("\n".join(rows)).told()
            for kind, one in zip(kinds, told):
                parts = [row.split(" ") for row in rows if row.startswith(kind + " ")]
                wished = [
                    (words[1], tuple(words[3:])) if kind == "sum" else (words[1], words[3]) if kind == "store"
                    else words[1] for words in parts
                ]
                self.assertEqual(one, wished)

    def test_words_of_rows_may_be_names(self):
        text = "in in\nin sum\nin store\nin out\nsum s = in sum store out\nstore t = in\nout in\nout out"
        self.assertEqual(show_net(read_net(text)), text)

    def test_text_to_net_and_back(self):
        for seed in range(60):
            net = Net(*drawn_lists(draw(seed)))
            text = show_net(net)
            self.assertEqual(read_net(text).told(), net.told())
            self.assertEqual(show_net(read_net(text)), text)

    def test_by_keyword(self):
        self.assertEqual(show_net(net=read_net(text="in a")), "in a")


class BadLineTest(unittest.TestCase):
    def line_of(self, text):
        with self.assertRaises(WireError) as caught:
            read_net(text)
        self.assertIs(type(caught.exception), BadLine, text)
        return caught.exception.line

    def test_rows_without_their_form(self):
        bad = [
            "in", "in a b", "in A", "in 9", "in =", "in a =", "in abcdefg", "in ", " in a", "in a ", "in  a", "In a",
            "out", "out a b", "out A", "out =", "out ", " out a", "out a ", "out  a", "outa",
            "sum", "sum n", "sum n a", "sum = a", "sum n == a", "sum n = A", "sum N = a", "sum n = a =", "sum n = = a",
            "sum n = ", "sum n =  a", "sum n  = a", "sum  n = a", " sum n = a", "sum n = a ", "sum n = a  a", "sum n =a",
            "sum n= a", "sum n = a, a", "sum n a =", "sum  = a", "sum n  a",
            "store", "store s", "store s =", "store s = ", "store s = a a", "store s = A", "store S = a", "store s a",
            "store s a =", "store = a", "store s == a", "store  s = a", "store s  = a", "store s =  a", " store s = a",
            "store s = a ", "store s = =", "net a", "", " ", "  ", "a", "#", "in\ta", ";", "in a; in b", "IN A",
        ]
        for row in bad:
            with self.subTest(row=row):
                if row != "":
                    self.assertEqual(self.line_of(row), 0)
                self.assertEqual(self.line_of("in a\n" + row), 1)
                self.assertEqual(self.line_of(row + "\nin a"), 0)
                self.assertEqual(self.line_of("in a\nout a\n" + row + "\nsum k =\n" + row), 2)

    def test_empty_rows(self):
        self.assertEqual(self.line_of("\n"), 0)
        self.assertEqual(self.line_of("\nin a"), 0)
        self.assertEqual(self.line_of("in a\n"), 1)
        self.assertEqual(self.line_of("in a\n\nin b"), 1)
        self.assertEqual(self.line_of(TEXT + "\n"), 9)

    def test_the_first_one_is_told(self):
        self.assertEqual(self.line_of("in a\nin b\nin C\nin D"), 2)

    def test_goes_ahead_of_what_a_net_refuses(self):
        self.assertEqual(self.line_of("in a\nin a\nbad"), 2)
        self.assertEqual(self.line_of("out x\nbad"), 1)
        self.assertEqual(self.line_of("sum n = n\nbad"), 1)
        self.assertEqual(self.line_of("\n".join(["in a"] * 7 + ["bad"])), 7)


class RefusedAsTheNetTest(unittest.TestCase):
    def refused(self, error, text):
        with self.assertRaises(WireError) as caught:
            read_net(text)
        self.assertIs(type(caught.exception), error)
        return caught.exception

    def test_each(self):
        self.refused(TooMany, "\n".join("in a" + str(number) for number in range(7)))
        self.refused(TooMany, "\n".join("sum n" + str(number) + " =" for number in range(41)))
        self.refused(TooMany, "in a\nsum n = " + " ".join(["a"] * 25))
        self.assertEqual(self.refused(Doubled, "in a\nsum a =").name, "a")
        self.assertEqual(self.refused(NoWire, "out x").name, "x")
        self.assertEqual(self.refused(NoWire, "sum n = y\nout x").name, "y")
        self.assertEqual(self.refused(Ring, "in a\nsum n = a n").ring, ["n"])

    def test_what_is_no_name_is_a_bad_line(self):
        with self.assertRaises(BadLine):
            read_net("in A")
        with self.assertRaises(BadName):
            Net(["A"], [], [], [])

    def test_a_great_text(self):
        rows = ["sum n%d = %s" % (number, " ".join(["i0"] * 24)) for number in range(40)]
        net = read_net("\n".join(rows + ["in i0"]))
        self.assertEqual(len(net.sum_rows()), 40)


if __name__ == "__main__":
    unittest.main()
