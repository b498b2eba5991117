"""Points 45 to 47, with 4, and the interface of sumwires.tables."""

import unittest

from reckon import LISTS, THINGS, draw, drawn_lists, drawn_rows, drawn_table, drawn_tables, net_walk, parity, walk
from sumwires.errors import BadMask, NoWire, WireError
from sumwires.machines import Machine
from sumwires.nets import Net
from sumwires.runs import Run
from sumwires.tables import hangs_on, net_of, summed, table_of


class TableTest(unittest.TestCase):
    def test_by_hand(self):
        net = Net(["a", "b"], [("m", ["n", "b", "n", "a"]), ("n", ["a", "s"])], [("s", "n"), ("t", "s")], ["m", "t"])
        table = table_of(net)
        self.assertIsInstance(table, Machine)
        self.assertEqual(table.told(), (2, [(1, 1), (1, 0)], [(0, 3), (2, 0)]))

    def test_answers_as_the_run_with_its_state(self):
        for seed in range(80):
            chance = draw(seed)
            lists = drawn_lists(chance)
            net = Net(*lists)
            table = table_of(net)
            self.assertEqual((table.inputs, table.stores(), table.outputs()), tuple(len(lists[k]) for k in (0, 2, 3)))
            rows = drawn_rows(chance, len(lists[0]), 12)
            answers, states, _ = net_walk(lists, rows)
            run = Run(net)
            state = 0
            for turn, row in enumerate(rows):
                answer, state = table.step(state, row)
                self.assertEqual((answer, state), (answers[turn], states[turn]))
                self.assertEqual((run.step(row), run.state()), (answer, state))

    def test_sums_in_any_order_give_the_same_table(self):
        for seed in range(30):
            chance = draw(seed)
            ins, sums, stores, outs = drawn_lists(chance)
            first = table_of(Net(ins, sums, stores, outs)).told()
            for _ in range(3):
                chance.shuffle(sums)
                self.assertEqual(table_of(Net(ins, sums, stores, outs)).told(), first)

    def test_the_empty_net(self):
        self.assertEqual(table_of(net=Net([], [], [], [])).told(), (0, [], []))

    def test_forty_sums_each_with_the_two_ahead_of_it(self):
        names = ["n%d" % number for number in range(40)]
        sums = [(name, names[max(place - 2, 0):place] or ["a"]) for place, name in enumerate(names)]
        table = table_of(Net(["a"], sums[::-1], [], ["n37", "n38", "n39"]))
        answer = net_walk((["a"], sums, [], ["n37", "n38", "n39"]), [1])[0][0]
        self.assertEqual(table.told(), (1, [], [(0, answer >> k & 1) for k in range(3)]))


class HangsTest(unittest.TestCase):
    def test_inputs_stores_and_sums(self):
        net = Net(["a", "b"], [("m", ["n", "b", "n", "a"]), ("n", ["a", "s"]), ("z", [])], [("s", "n"), ("t", "s")], [])
        told = {name: hangs_on(net, name) for name in net.wire_names()}
        self.assertEqual(told, {
            "a": (0, 1), "b": (0, 2), "m": (0, 3), "n": (1, 1), "z": (0, 0), "s": (1, 0), "t": (2, 0),
        })
        for pair in told.values():
            self.assertIs(type(pair), tuple)

    def test_the_bit_is_the_sum_under_both_masks(self):
        for seed in range(40):
            chance = draw(seed)
            lists = drawn_lists(chance)
            net = Net(*lists)
            rows = drawn_rows(chance, len(lists[0]), 6)
            _, states, bits = net_walk(lists, rows)
            pairs = {name: hangs_on(net=net, name=name) for name in net.wire_names()}
            for row, state, known in zip(rows, [0] + states, bits):
                for name, (stores, inputs) in pairs.items():
                    self.assertEqual(known[name], parity(stores & state) ^ parity(inputs & row))

    def test_no_wire(self):
        net = Net(["a"], [], [("s", "a")], [])
        for thing in THINGS + LISTS + ["b", "zz"]:
            with self.subTest(thing=thing), self.assertRaises(WireError) as caught:
                hangs_on(net, thing)
            self.assertIs(type(caught.exception), NoWire)
            self.assertEqual(caught.exception.name, thing)


class NetOfTest(unittest.TestCase):
    def test_very_names_and_wires(self):
        net = net_of(Machine(2, [(3, 1), (0, 0), (6, 3)], [(5, 2), (0, 3)]))
        self.assertIsInstance(net, Net)
        self.assertEqual(net.told(), (
            ["i0", "i1"],
            [("n0", ("s0", "s1", "i0")), ("n1", ()), ("n2", ("s1", "s2", "i0", "i1")), ("o0", ("s0", "s2", "i1")),
             ("o1", ("i0", "i1"))],
            [("s0", "n0"), ("s1", "n1"), ("s2", "n2")],
            ["o0", "o1"],
        ))

    def test_its_table_again(self):
        for told in drawn_tables(11, 60):
            self.assertEqual(table_of(net_of(Machine(*told))).told(), told)

    def test_nothing(self):
        self.assertEqual(net_of(machine=Machine(0, [], [])).told(), ([], [], [], []))

    def test_as_great_as_can_be(self):
        told = (6, [(2 ** 16 - 1, 63)] * 16, [(2 ** 16 - 1, 63)] * 6)
        net = net_of(Machine(*told))
        self.assertEqual(table_of(net).told(), told)
        self.assertEqual(net.wire_of("n15").wires[9:12], ("s9", "s10", "s11"))


class SummedTest(unittest.TestCase):
    def test_as_the_run(self):
        for seed, told in enumerate(drawn_tables(12, 60)):
            rows = drawn_rows(draw(seed), told[0], 14)
            kept = list(rows)
            self.assertEqual(summed(Machine(*told), rows), walk(told, rows)[0])
            self.assertEqual(rows, kept)

    def test_no_rows_and_many(self):
        self.assertEqual(summed(Machine(1, [], [(0, 1)]), []), [])
        told = drawn_table(draw(3), 2, 120, 6)
        rows = drawn_rows(draw(4), 2, 300)
        self.assertEqual(summed(machine=Machine(*told), rows=rows), walk(told, rows)[0])

    def test_without_inputs_stores_outs(self):
        self.assertEqual(summed(Machine(0, [(1, 0)], [(1, 0)]), [0, 0]), [0, 0])
        self.assertEqual(summed(Machine(1, [], [(0, 1)]), [1, 0, 1]), [1, 0, 1])
        self.assertEqual(summed(Machine(1, [(0, 1)], []), [1, 0, 1]), [0, 0, 0])

    def test_refused_likewise(self):
        machine = Machine(2, [(1, 3)], [(1, 1)])
        for thing in THINGS + LISTS + [4]:
            for place in range(3):
                rows = [1, 0]
                rows.insert(place, thing)
                with self.subTest(thing=thing, place=place), self.assertRaises(WireError) as caught:
                    summed(machine, rows)
                self.assertIs(type(caught.exception), BadMask)
        with self.assertRaises(BadMask):
            summed(Machine(0, [], []), [1])


if __name__ == "__main__":
    unittest.main()
