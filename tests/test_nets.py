"""Points 22 and 23, with 3, 4 and 5, and the interface of sumwires.nets."""

import unittest

from reckon import LISTS, THINGS, draw, drawn_lists
from sumwires.errors import BadName, Doubled, NoWire, Ring, TooMany, WireError
from sumwires.nets import Net
from sumwires.wires import InWire, StoreWire, SumWire

INS = ["a", "b"]
SUMS = [("n", ["a", "s"]), ("m", ("n", "n", "b"))]
STORES = [("s", "m"), ("t", "s")]
OUTS = ["m", "t", "m"]


def names(letter, count):
    return [letter + str(number) for number in range(count)]


class Refusals(unittest.TestCase):
    def refused(self, error, *lists):
        before = repr(lists)
        with self.assertRaises(WireError) as caught:
            Net(*lists)
        self.assertIs(type(caught.exception), error)
        self.assertEqual(repr(lists), before)
        return caught.exception

    def holds(self, ring, sums):
        wires = dict(sums)
        self.assertIs(type(ring), list)
        self.assertGreaterEqual(len(ring), 1)
        self.assertEqual(len(ring), len(set(ring)))
        for place, name in enumerate(ring):
            self.assertIn(ring[(place + 1) % len(ring)], wires[name])


class TooManyTest(Refusals):
    def test_as_many_as_are_let_by(self):
        ins = names("i", 6)
        sums = [(name, ["i0"] * 24) for name in names("n", 40)]
        stores = [(name, "n0") for name in names("s", 16)]
        net = Net(ins, sums, stores, ["n0"] * 6)
        self.assertEqual([len(told) for told in net.told()], [6, 40, 16, 6])
        self.assertEqual(len(net.wire_names()), 62)

    def test_one_more_of_each(self):
        self.refused(TooMany, names("i", 7), [], [], [])
        self.refused(TooMany, [], [(name, []) for name in names("n", 41)], [], [])
        self.refused(TooMany, ["a"], [], [(name, "a") for name in names("s", 17)], [])
        self.refused(TooMany, ["a"], [], [], ["a"] * 7)
        for wires in (["a"] * 25, ("a",) * 25):
            self.refused(TooMany, ["a"], [("n", wires)], [], [])
            self.refused(TooMany, ["a"], [("n", []), ("m", wires)], [], [])

    def test_goes_ahead_of_all_others(self):
        for bad in ([None] * 7, ["a"] * 7):
            self.refused(TooMany, bad, [("n", ["n"])], [], [])
        self.refused(TooMany, [], [(None, [[]])] * 41, [], [])
        self.refused(TooMany, [], [], [("s", None)] * 17, [])
        self.refused(TooMany, ["A", "A"], [("n", ["n"])], [("n", {})], [{}] * 7)
        self.refused(TooMany, ["A"], [("n", [None] * 25)], [], [])


class NamesTest(Refusals):
    def test_what_is_no_name(self):
        for thing in THINGS + LISTS:
            with self.subTest(thing=thing):
                for lists in (
                    (["a", thing], [], [], []), (["a"], [(thing, ["a"])], [], []), (["a"], [], [(thing, "a")], []),
                ):
                    told = self.refused(BadName, *lists).name
                    self.assertEqual(told, thing)
                    self.assertIs(type(told), type(thing))

    def test_names_that_are_just_let_by(self):
        net = Net(["a", "z99999"], [("zzzzzz", [])], [("a0", "a")], [])
        self.assertEqual(net.wire_names(), ["a", "z99999", "zzzzzz", "a0"])

    def test_a_name_that_was_there_ahead(self):
        for lists in (
            (["a", "b", "a"], [], [], []), (["a"], [("a", [])], [], []), (["b", "a"], [], [("a", "b")], []),
            (["b"], [("a", []), ("a", [])], [], []), (["b"], [("a", [])], [("a", "b")], []),
            (["b"], [], [("a", "b"), ("a", "b")], []),
        ):
            self.assertEqual(self.refused(Doubled, *lists).name, "a")

    def test_one_by_one(self):
        self.assertEqual(self.refused(Doubled, ["a", "a", "A"], [], [], []).name, "a")
        self.assertEqual(self.refused(BadName, ["a", "A", "a"], [], [], []).name, "A")
        self.assertEqual(self.refused(BadName, ["a"], [("B", [])], [("a", "a")], []).name, "B")
        self.assertEqual(self.refused(Doubled, ["a"], [("a", [])], [("B", "a")], []).name, "a")
        self.assertEqual(self.refused(BadName, ["A", "B"], [("C", [])], [("D", "a")], []).name, "A")
        self.assertEqual(self.refused(Doubled, ["a", "b", "b", "a"], [], [], []).name, "b")

    def test_goes_ahead_of_wires_and_rings(self):
        self.refused(BadName, [], [("n", ["n", "x"])], [(None, "y")], ["z"])
        self.refused(Doubled, [], [("n", ["n", "x"])], [("n", "y")], ["z"])

    def test_a_name_that_is_a_list_is_told_as_a_copy(self):
        thing = ["a"]
        error = self.refused(BadName, [thing], [], [], [])
        thing.append("b")
        self.assertEqual(error.name, ["a"])


class WiresTest(Refusals):
    def test_what_is_no_wire(self):
        for thing in THINGS + LISTS + ["b", "zzzzzz"]:
            with self.subTest(thing=thing):
                for lists in (
                    (["a"], [("n", ["a", thing])], [], []), (["a"], [("n", ("a", thing))], [], []),
                    (["a"], [], [("s", "a"), ("t", thing)], []), (["a"], [], [], ["a", thing]),
                ):
                    told = self.refused(NoWire, *lists).name
                    self.assertEqual(told, thing)
                    self.assertIs(type(told), type(thing))

    def test_the_first_one_is_told(self):
        sums = [("n", ["a", "x1"]), ("m", ["x2", "x3"])]
        self.assertEqual(self.refused(NoWire, ["a"], sums, [("s", "x4")], ["x5"]).name, "x1")
        self.assertEqual(self.refused(NoWire, ["a"], sums[1:], [("s", "x4")], ["x5"]).name, "x2")
        self.assertEqual(self.refused(NoWire, ["a"], [], [("t", "a"), ("s", "x4")], ["x5"]).name, "x4")
        self.assertEqual(self.refused(NoWire, ["a"], [], [("s", "a")], ["a", "x5", "x6"]).name, "x5")

    def test_goes_ahead_of_rings(self):
        self.assertEqual(self.refused(NoWire, [], [("n", ["n"])], [], ["x"]).name, "x")
        self.assertEqual(self.refused(NoWire, [], [("n", ["n", "x"])], [], []).name, "x")
        self.assertEqual(self.refused(NoWire, [], [("n", ["n"])], [("s", "x")], []).name, "x")

    def test_each_kind_of_wire_may_be_named(self):
        net = Net(["a"], [("n", ["a", "m", "s"]), ("m", [])], [("s", "s"), ("t", "n"), ("u", "a")], ["a", "n", "u"])
        self.assertEqual(net.out_wires(), ["a", "n", "u"])


class RingTest(Refusals):
    def ring_of(self, sums, stores=()):
        ring = self.refused(Ring, ["a"], sums, list(stores), []).ring
        self.holds(ring, sums)
        return ring

    def test_of_one_sum(self):
        self.assertEqual(self.ring_of([("n", ["n"])]), ["n"])
        self.assertEqual(self.ring_of([("n", ["a", "a", "n"])]), ["n"])
        self.assertEqual(self.ring_of([("m", ["a"]), ("n", ["m", "n"]), ("k", ["n"])]), ["n"])

    def test_twice_the_same_wire_is_a_ring_too(self):
        self.assertEqual(self.ring_of([("n", ["n", "n"])]), ["n"])

    def test_of_two_sums(self):
        self.assertEqual(sorted(self.ring_of([("n", ["m"]), ("m", ["a", "n"])])), ["m", "n"])
        self.assertEqual(sorted(self.ring_of([("k", ["n"]), ("n", ["m"]), ("m", ("n",))])), ["m", "n"])

    def test_of_many_sums(self):
        for count in (3, 7, 40):
            ring = names("n", count)
            sums = [(name, ["a", ring[(place + 1) % count]]) for place, name in enumerate(ring)]
            draw(count).shuffle(sums)
            self.assertEqual(sorted(self.ring_of(sums)), sorted(ring))

    def test_among_sums_that_are_in_no_ring(self):
        sums = [("h", ["g", "n"]), ("g", ["n"]), ("n", ["e", "m"]), ("m", ["k", "e"]), ("k", ["e", "n"]), ("e", ["a"])]
        for seed in range(20):
            draw(seed).shuffle(sums)
            self.assertEqual(sorted(self.ring_of(sums)), ["k", "m", "n"])

    def test_a_ring_through_a_store_is_none(self):
        Net([], [("n", ["s"])], [("s", "n")], [])
        Net([], [], [("s", "s")], [])
        Net([], [], [("s", "t"), ("t", "s")], [])
        Net([], [("n", ["s", "m"]), ("m", ["t"])], [("s", "n"), ("t", "n")], [])

    def test_a_ring_beside_a_store(self):
        self.ring_of([("n", ["s", "m"]), ("m", ["n"])], [("s", "n")])

    def test_just_where_there_is_one(self):
        rings = 0
        for seed in range(400):
            chance = draw(seed)
            all_names = names("n", chance.randrange(1, 9))
            sums = [(name, [chance.choice(all_names) for _ in range(chance.randrange(3))]) for name in all_names]
            reach = {name: set(wires) for name, wires in sums}
            for middle in all_names:
                for name in all_names:
                    if middle in reach[name]:
                        reach[name] |= reach[middle]
            if any(name in reach[name] for name in all_names):
                rings += 1
                self.ring_of(sums)
            else:
                Net(["a"], sums, [], [])
        self.assertGreater(min(rings, 400 - rings), 30)


class ToldTest(unittest.TestCase):
    def test_lists_and_names(self):
        net = Net(INS, SUMS, STORES, OUTS)
        self.assertEqual(net.in_names(), ["a", "b"])
        self.assertEqual(net.sum_rows(), [("n", ("a", "s")), ("m", ("n", "n", "b"))])
        self.assertEqual(net.store_rows(), [("s", "m"), ("t", "s")])
        self.assertEqual(net.out_wires(), ["m", "t", "m"])
        self.assertEqual(net.wire_names(), ["a", "b", "n", "m", "s", "t"])
        told = net.told()
        self.assertIs(type(told), tuple)
        self.assertEqual(told, (net.in_names(), net.sum_rows(), net.store_rows(), net.out_wires()))
        for one in told:
            self.assertIs(type(one), list)
        for row in net.sum_rows() + net.store_rows():
            self.assertIs(type(row), tuple)
        for row in net.sum_rows():
            self.assertIs(type(row[1]), tuple)

    def test_by_keywords(self):
        net = Net(ins=["a"], sums=[("n", [])], stores=[("s", "n")], outs=["a"])
        self.assertEqual(net.told(), (["a"], [("n", ())], [("s", "n")], ["a"]))

    def test_the_empty_net(self):
        net = Net([], [], [], [])
        self.assertEqual(net.told(), ([], [], [], []))
        self.assertEqual((net.wire_names(), net.order()), ([], []))

    def test_drawn_nets_tell_what_they_were_made_of(self):
        for seed in range(60):
            lists = drawn_lists(draw(seed))
            net = Net(*lists)
            sums = [(name, tuple(wires)) for name, wires in lists[1]]
            self.assertEqual(net.told(), (lists[0], sums, lists[2], lists[3]))
            rows = [row[0] for row in lists[1] + lists[2]]
            self.assertEqual(net.wire_names(), lists[0] + rows)

    def test_lists_that_were_handed_in_may_be_changed(self):
        wires = ["a", "s"]
        ins, sums, stores, outs = ["a", "b"], [("n", wires), ("m", ("n", "n", "b"))], list(STORES), list(OUTS)
        net = Net(ins, sums, stores, outs)
        before = Net(INS, SUMS, STORES, OUTS)
        self.assertEqual((ins, sums, stores, outs), (INS, SUMS, STORES, OUTS))
        wires[0] = "zz"
        wires.append("b")
        ins[0] = "zz"
        sums.append(("k", []))
        stores.pop()
        outs.clear()
        self.assertEqual(net.told(), before.told())
        self.assertEqual(net.wire_names(), before.wire_names())
        self.assertEqual(net.order(), ["n", "m"])
        self.assertEqual(net.wire_of("n").wires, ("a", "s"))

    def test_lists_that_were_told_may_be_changed(self):
        net = Net(INS, SUMS, STORES, OUTS)
        before = repr(net.told()), net.wire_names(), net.order()
        for told in list(net.told()) + [
            net.in_names(), net.sum_rows(), net.store_rows(), net.out_wires(), net.wire_names(), net.order(),
        ]:
            told.append("zz")
            told[0] = "yy"
        self.assertEqual((repr(net.told()), net.wire_names(), net.order()), before)


class WireOfTest(unittest.TestCase):
    def test_each_name(self):
        net = Net(INS, SUMS, STORES, OUTS)
        for number, name in enumerate(INS):
            wire = net.wire_of(name)
            self.assertIsInstance(wire, InWire)
            self.assertEqual((wire.name, wire.number, wire.kind()), (name, number, "in"))
        for name, wires in SUMS:
            wire = net.wire_of(name)
            self.assertIsInstance(wire, SumWire)
            self.assertEqual((wire.name, wire.wires, wire.kind()), (name, tuple(wires), "sum"))
        for number, (name, taken) in enumerate(STORES):
            wire = net.wire_of(name)
            self.assertIsInstance(wire, StoreWire)
            self.assertEqual((wire.name, wire.wire, wire.number, wire.kind()), (name, taken, number, "store"))

    def test_the_same_question_has_an_equal_answer(self):
        net = Net(INS, SUMS, STORES, OUTS)
        for name in net.wire_names():
            self.assertEqual(net.wire_of(name), net.wire_of(name))

    def test_what_is_asked_by_keyword(self):
        self.assertEqual(Net(INS, SUMS, STORES, OUTS).wire_of(name="n").name, "n")

    def test_no_wire(self):
        for net in (Net(INS, SUMS, STORES, OUTS), Net([], [], [], [])):
            for thing in THINGS + LISTS + ["c", "nn", "zzzzzz"]:
                with self.subTest(thing=thing), self.assertRaises(NoWire) as caught:
                    net.wire_of(thing)
                self.assertEqual(caught.exception.name, thing)


class OrderTest(unittest.TestCase):
    def holds(self, net):
        order = net.order()
        self.assertIs(type(order), list)
        self.assertEqual(sorted(order), sorted(name for name, _ in net.sum_rows()))
        for name, wires in net.sum_rows():
            for wire in wires:
                if wire in order:
                    self.assertLess(order.index(wire), order.index(name))
        self.assertEqual(net.order(), order)

    def test_sums_in_another_order_than_they_need_one_another(self):
        sums = [("d", ["c", "b"]), ("c", ["b"]), ("b", ["a", "s"]), ("e", ["d", "d"])]
        self.assertEqual(Net(["a"], sums, [("s", "e")], []).order(), ["b", "c", "d", "e"])

    def test_drawn_nets(self):
        for seed in range(60):
            self.holds(Net(*drawn_lists(draw(seed))))

    def test_forty_sums_each_with_the_two_ahead_of_it(self):
        all_names = names("n", 40)
        sums = [(name, all_names[max(place - 2, 0):place]) for place, name in enumerate(all_names)]
        self.assertEqual(Net([], sums, [], []).order(), all_names)
        self.assertEqual(Net([], sums[::-1], [], []).order(), all_names)
        for seed in range(5):
            draw(seed).shuffle(sums)
            self.assertEqual(Net([], sums, [], []).order(), all_names)


if __name__ == "__main__":
    unittest.main()
