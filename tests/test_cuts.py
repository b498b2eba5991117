"""Points 105 and 106, with 4 and 5, and the interface of sumwires.cuts."""

import unittest

from reckon import LISTS, THINGS, at, draw, drawn_lists, drawn_rows, net_walk, turn, walk
from sumwires.cuts import cut, cut_shown
from sumwires.errors import BadName, Doubled, NoWire, TooMany, WireError
from sumwires.nets import Net
from sumwires.runs import answers_of
from sumwires.tables import table_of

LIST = (["a", "b"], [("n", ("a", "s", "a")), ("m", ("n", "b"))], [("s", "n"), ("t", "s"), ("u", "u")], ["n", "t", "n"])


def cut_by_hand(lists, wire, fresh):
    def put(other):
        return fresh if other == wire else other

    ins, sums, stores, outs = lists
    sums = [(name, tuple(put(other) for other in wires)) for name, wires in sums] + [(fresh, ())]
    return list(ins), sums, [(name, put(other)) for name, other in stores], [put(other) for other in outs]


def full_net():
    sums = [("n%d" % number, ["n%d" % (number - 1)] if number else ["a"]) for number in range(40)]
    return Net(["a"], sums, [], ["n39"])


class Refusals(unittest.TestCase):
    def refused(self, error, call, *things):
        with self.assertRaises(WireError) as caught:
            call(*things)
        self.assertIs(type(caught.exception), error)
        return caught.exception


class CutTest(Refusals):
    def test_each_wire(self):
        for wire in ("a", "b", "n", "m", "s", "t", "u"):
            net = Net(*LIST)
            told = cut(net, wire, "zz")
            self.assertIsInstance(told, Net)
            self.assertEqual(told.told(), cut_by_hand(LIST, wire, "zz"))
            self.assertEqual(net.told(), Net(*LIST).told())

    def test_by_hand(self):
        told = cut(net=Net(*LIST), wire="a", fresh="z").told()
        self.assertEqual(told[1], [("n", ("z", "s", "z")), ("m", ("n", "b")), ("z", ())])
        told = cut(Net(*LIST), "n", "z").told()
        self.assertEqual(told[1:], (
            [("n", ("a", "s", "a")), ("m", ("z", "b")), ("z", ())], [("s", "z"), ("t", "s"), ("u", "u")],
            ["z", "t", "z"],
        ))

    def test_a_wire_that_nothing_has(self):
        told = cut(Net(*LIST), "m", "z").told()
        self.assertEqual(told, (LIST[0], LIST[1] + [("z", ())], LIST[2], LIST[3]))

    def test_drawn_nets(self):
        for seed in range(60):
            chance = draw(seed)
            lists = drawn_lists(chance, most=(6, 39, 16, 6))
            net = Net(*lists)
            if net.wire_names():
                wire = chance.choice(net.wire_names())
                wished = cut_by_hand(lists, wire, "fresh")
                self.assertEqual(cut(net, wire, "fresh").told(), wished)
                rows = drawn_rows(chance, len(lists[0]), 8)
                self.assertEqual(answers_of(cut(net, wire, "fresh"), rows), net_walk(wished, rows)[0])

    def test_thirty_nine_sums(self):
        sums = [("n%d" % number, ["a"] * 24) for number in range(39)]
        told = cut(Net(["a"], sums, [], []), "a", "z")
        self.assertEqual(len(told.sum_rows()), 40)
        self.assertEqual(told.sum_rows()[0], ("n0", ("z",) * 24))

    def test_no_wire(self):
        for thing in THINGS + LISTS + ["c", "zz"]:
            with self.subTest(thing=thing):
                self.assertEqual(self.refused(NoWire, cut, Net(*LIST), thing, "z").name, thing)

    def test_no_name(self):
        for thing in THINGS + LISTS:
            with self.subTest(thing=thing):
                told = self.refused(BadName, cut, Net(*LIST), "a", thing).name
                self.assertEqual(told, thing)
                self.assertIs(type(told), type(thing))

    def test_a_name_that_a_wire_has(self):
        for name in Net(*LIST).wire_names():
            self.assertEqual(self.refused(Doubled, cut, Net(*LIST), "a", name).name, name)

    def test_forty_sums(self):
        self.refused(TooMany, cut, full_net(), "a", "z")

    def test_two_due_at_once(self):
        self.assertEqual(self.refused(NoWire, cut, Net(*LIST), "x", "A").name, "x")
        self.assertEqual(self.refused(NoWire, cut, Net(*LIST), "x", "a").name, "x")
        self.refused(NoWire, cut, full_net(), "x", "z")
        self.refused(NoWire, cut, full_net(), None, None)
        self.assertEqual(self.refused(BadName, cut, full_net(), "a", "A").name, "A")
        self.assertEqual(self.refused(Doubled, cut, full_net(), "a", "n0").name, "n0")


class ShownTest(Refusals):
    def holds(self, lists, wire):
        net = Net(*lists)
        paper = cut_shown(net, wire)
        self.assertEqual(net.told(), Net(*lists).told())
        one, other = table_of(net).told(), table_of(Net(*cut_by_hand(lists, wire, "byhand"))).told()
        if paper[0] == "apart":
            which, turns = paper[1:]
            rows = [1 << which] + [0] * turns
            first, second = walk(one, rows)[0], walk(other, rows)[0]
            self.assertEqual(first[:-1], second[:-1])
            self.assertNotEqual(first[-1], second[-1])
            for single in range(one[0]):
                rows = ([1 << single] + [0] * turns)[:turns]
                self.assertEqual(walk(one, rows)[0], walk(other, rows)[0])
            return "apart"
        self.assertEqual((paper[0], len(paper)), ("alike", 4))
        pairs, begins, sums = paper[1:]
        starts = [((0, 0), 1 << which, places) for which, places in enumerate(begins)]
        starts += [(pair, 0, places) for pair, places in zip(pairs, sums)]
        self.assertEqual(len(starts), one[0] + len(pairs))
        for pair, row, places in starts:
            first, second = turn(one, pair[0], row), turn(other, pair[1], row)
            self.assertEqual(first[0], second[0])
            self.assertEqual(first[1], at([told[0] for told in pairs], places))
            self.assertEqual(second[1], at([told[1] for told in pairs], places))
        return "alike"

    def test_each_wire(self):
        told = {wire: self.holds(LIST, wire) for wire in ("a", "b", "n", "m", "s", "t", "u")}
        self.assertEqual(told, dict.fromkeys(told, "alike"))
        lists = (["a"], [("n", ["a", "s"])], [("s", "n")], ["n"])
        self.assertEqual(cut_shown(net=Net(*lists), wire="a"), ("apart", 0, 0))
        self.assertEqual(cut_shown(Net(*lists), "s"), ("apart", 0, 1))
        self.assertEqual(cut_shown(Net(*lists), "n"), ("apart", 0, 0))

    def test_drawn_nets(self):
        seen = []
        for seed in range(80):
            chance = draw(seed)
            lists = drawn_lists(chance, most=(6, 39, 16, 6))
            names = Net(*lists).wire_names()
            for _ in range(3 if names else 0):
                seen.append(self.holds(lists, chance.choice(names)))
        self.assertGreater(min(seen.count("alike"), seen.count("apart")), 20)

    def test_names_that_the_net_has_already(self):
        shapes = ["c%d", "z%d", "cut%d", "x%d", "n%d", "f%d", "w%d", "zero%d", "new%d", "o%d", "k%d"]
        for shape in shapes:
            for others in ([], ["cut", "fresh", "c", "z"]):
                names = [shape % number for number in range(61)]
                names[50:50 + len(others)] = others
                sums = [(name, [names[0]]) for name in names[6:45]]
                lists = (names[:6], sums, [(name, names[0]) for name in names[45:]], [names[6]])
                self.assertEqual(self.holds(lists, names[0]), "apart")
                self.assertEqual(self.holds(lists, names[50]), "alike")

    def test_refused(self):
        for thing in THINGS + LISTS + ["c", "zz"]:
            with self.subTest(thing=thing):
                self.assertEqual(self.refused(NoWire, cut_shown, Net(*LIST), thing).name, thing)
                self.assertEqual(self.refused(NoWire, cut_shown, full_net(), thing).name, thing)
        self.refused(TooMany, cut_shown, full_net(), "a")
        self.refused(TooMany, cut_shown, full_net(), "n39")

    def test_the_same_each_time(self):
        net = Net(*LIST)
        before = repr(cut_shown(net, "t"))
        cut_shown(net, "t")[1].append(3)
        self.assertEqual(repr(cut_shown(net, "t")), before)


if __name__ == "__main__":
    unittest.main()
