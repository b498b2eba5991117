"""Point 21, with 4, and the interface of sumwires.wires."""

import unittest

from sumwires.wires import InWire, StoreWire, SumWire, Wire


def parity(mask):
    return bin(mask).count("1") % 2


class ClassesTest(unittest.TestCase):
    def test_each_stands_under_wire_alone(self):
        made = {InWire: InWire("a", 0), SumWire: SumWire("b", []), StoreWire: StoreWire("c", "a", 0)}
        for one, wire in made.items():
            self.assertIsInstance(wire, Wire)
            self.assertEqual(one.__bases__, (Wire,))
            for other in made:
                self.assertEqual(isinstance(wire, other), one == other)

    def test_kinds(self):
        self.assertEqual(InWire("a", 0).kind(), "in")
        self.assertEqual(SumWire("a", ["b"]).kind(), "sum")
        self.assertEqual(StoreWire("a", "b", 0).kind(), "store")

    def test_made_by_keywords(self):
        self.assertEqual(InWire(name="a", number=2).number, 2)
        self.assertEqual(SumWire(name="a", wires=["b"]).wires, ("b",))
        self.assertEqual(StoreWire(name="a", wire="b", number=3).number, 3)


class InputTest(unittest.TestCase):
    def test_fields(self):
        for number in range(6):
            wire = InWire("x1", number)
            self.assertEqual((wire.name, wire.number), ("x1", number))

    def test_needs_none(self):
        wire = InWire("a", 0)
        self.assertEqual(wire.needs(), [])
        wire.needs().append("z")
        self.assertEqual(wire.needs(), [])
        self.assertEqual(InWire("b", 1).needs(), [])

    def test_bit_is_that_of_the_row(self):
        for number in range(6):
            for row in range(64):
                for state in (0, 2 ** 16 - 1):
                    told = InWire("a", number).bit({}, row, state)
                    self.assertIs(type(told), int)
                    self.assertEqual(told, row // 2 ** number % 2)

    def test_bit_of_greater_numbers(self):
        self.assertEqual(InWire("a", 250).bit({}, 2 ** 250, 0), 1)
        self.assertEqual(InWire("a", 250).bit({}, 2 ** 250 - 1, 2 ** 250), 0)

    def test_hangs_on_its_own_bit(self):
        for number in list(range(6)) + [64, 250]:
            self.assertEqual(InWire("a", number).hang({}), (0, 2 ** number))

    def test_what_is_known_changes_nothing(self):
        known = {"a": 1, "b": 0}
        self.assertEqual(InWire("a", 0).bit(known=known, row=0, state=1), 0)
        self.assertEqual(known, {"a": 1, "b": 0})
        self.assertEqual(InWire("a", 1).hang(known={"a": (5, 5)}), (0, 2))


class StoreTest(unittest.TestCase):
    def test_fields(self):
        for number in range(16):
            wire = StoreWire("s1", "w", number)
            self.assertEqual((wire.name, wire.wire, wire.number), ("s1", "w", number))

    def test_needs_none(self):
        wire = StoreWire("a", "b", 0)
        self.assertEqual(wire.needs(), [])
        wire.needs().append("z")
        self.assertEqual(wire.needs(), [])

    def test_bit_is_that_of_the_state(self):
        for number in range(16):
            for state in (0, 1, 2 ** number, 2 ** 16 - 1, 2 ** 16 - 1 - 2 ** number, 0x5a5a):
                for row in (0, 63):
                    told = StoreWire("a", "b", number).bit({}, row, state)
                    self.assertIs(type(told), int)
                    self.assertEqual(told, state // 2 ** number % 2)

    def test_bit_of_greater_numbers(self):
        self.assertEqual(StoreWire("a", "b", 119).bit({}, 0, 2 ** 119), 1)
        self.assertEqual(StoreWire("a", "b", 119).bit({}, 2 ** 119, 2 ** 119 - 1), 0)

    def test_hangs_on_its_own_bit(self):
        for number in list(range(16)) + [64, 119]:
            self.assertEqual(StoreWire("a", "b", number).hang({}), (2 ** number, 0))

    def test_its_wire_at_this_turn_changes_nothing(self):
        known = {"b": 1}
        self.assertEqual(StoreWire("a", "b", 0).bit(known=known, row=1, state=0), 0)
        self.assertEqual(known, {"b": 1})
        self.assertEqual(StoreWire("a", "b", 1).hang(known={"b": (5, 5)}), (2, 0))


class SumTest(unittest.TestCase):
    def test_fields(self):
        for wires in (["b", "c", "b"], ("b", "c", "b")):
            wire = SumWire("s", wires)
            self.assertEqual(wire.name, "s")
            self.assertIs(type(wire.wires), tuple)
            self.assertEqual(wire.wires, ("b", "c", "b"))
        self.assertEqual(SumWire("s", []).wires, ())

    def test_needs_its_wires_in_order(self):
        self.assertEqual(SumWire("s", ["c", "a", "c", "b"]).needs(), ["c", "a", "c", "b"])
        self.assertEqual(SumWire("s", ("b", "a")).needs(), ["b", "a"])
        self.assertEqual(SumWire("s", []).needs(), [])

    def test_told_list_may_be_changed(self):
        wire = SumWire("s", ["a", "b"])
        told = wire.needs()
        self.assertIs(type(told), list)
        told.append("z")
        told[0] = "y"
        self.assertEqual(wire.needs(), ["a", "b"])
        self.assertEqual(wire.wires, ("a", "b"))
        self.assertEqual(wire.bit({"a": 1, "b": 0}, 0, 0), 1)

    def test_handed_in_list_may_be_changed(self):
        wires = ["a", "b"]
        wire = SumWire("s", wires)
        self.assertEqual(wires, ["a", "b"])
        wires.append("c")
        wires[0] = "z"
        self.assertEqual(wire.wires, ("a", "b"))
        self.assertEqual(wire.needs(), ["a", "b"])
        self.assertEqual(wire.bit({"a": 1, "b": 1}, 0, 0), 0)
        self.assertEqual(wire.hang({"a": (1, 0), "b": (0, 1)}), (1, 1))

    def test_bit_with_a_wire_several_times(self):
        for times in range(5):
            for one in (0, 1):
                for other in (0, 1):
                    wire = SumWire("s", ["a"] * times + ["b"])
                    told = wire.bit({"a": one, "b": other}, 0, 0)
                    self.assertIs(type(told), int)
                    self.assertEqual(told, (one * times + other) % 2)

    def test_bit_where_the_same_wires_are_apart(self):
        known = {"a": 1, "b": 1, "c": 0}
        self.assertEqual(SumWire("s", ["a", "b", "a"]).bit(known, 0, 0), 1)
        self.assertEqual(SumWire("s", ["a", "c", "a", "c"]).bit(known, 0, 0), 0)
        self.assertEqual(SumWire("s", ["a", "b", "c"]).bit(known, 0, 0), 0)

    def test_bit_of_twenty_four_wires(self):
        names = ["w" + str(number) for number in range(24)]
        for ones in range(25):
            known = {name: 1 if place < ones else 0 for place, name in enumerate(names)}
            self.assertEqual(SumWire("s", names).bit(known, 0, 0), ones % 2)

    def test_no_wires(self):
        told = SumWire("s", []).bit({}, 63, 2 ** 16 - 1)
        self.assertIs(type(told), int)
        self.assertEqual(told, 0)
        self.assertEqual(SumWire("s", []).hang({}), (0, 0))

    def test_row_and_state_change_nothing(self):
        for row in (0, 1, 63):
            for state in (0, 1, 2 ** 16 - 1):
                self.assertEqual(SumWire("s", ["a"]).bit({"a": 0}, row, state), 0)
                self.assertEqual(SumWire("s", ["a"]).bit({"a": 1}, row, state), 1)

    def test_hang_with_a_wire_several_times(self):
        known = {"a": (5, 3), "b": (1, 2)}
        self.assertEqual(SumWire("s", ["a"]).hang(known), (5, 3))
        self.assertEqual(SumWire("s", ["a", "a"]).hang(known), (0, 0))
        self.assertEqual(SumWire("s", ["a", "a", "a"]).hang(known), (5, 3))
        self.assertEqual(SumWire("s", ["a", "b"]).hang(known), (4, 1))
        self.assertEqual(SumWire("s", ["b", "a", "b"]).hang(known), (5, 3))

    def test_hang_of_greater_numbers(self):
        known = {"a": (2 ** 119 + 1, 2 ** 80), "b": (1, 2 ** 80 + 4)}
        self.assertEqual(SumWire("s", ["a", "b"]).hang(known), (2 ** 119, 4))

    def test_hang_is_a_tuple(self):
        for wire in (InWire("a", 1), StoreWire("a", "b", 1), SumWire("a", ["b", "b", "b"])):
            self.assertIs(type(wire.hang({"b": (1, 1)})), tuple)

    def test_what_is_known_stays_and_may_hold_more(self):
        bits = {"a": 1, "b": 0, "z": 1}
        pairs = {"a": (1, 0), "b": (0, 1), "z": (7, 7)}
        wire = SumWire("s", ["a", "b"])
        for again in range(2):
            self.assertEqual(wire.bit(known=bits, row=0, state=0), 1)
            self.assertEqual(wire.hang(known=pairs), (1, 1))
        self.assertEqual(bits, {"a": 1, "b": 0, "z": 1})
        self.assertEqual(pairs, {"a": (1, 0), "b": (0, 1), "z": (7, 7)})


class HangTest(unittest.TestCase):
    def test_bit_is_the_sum_under_both_masks(self):
        wires = [
            InWire("i0", 0), InWire("i5", 5), StoreWire("s0", "n", 0), StoreWire("s15", "m", 15),
            SumWire("n", ["i0", "s0", "s15"]), SumWire("m", ["n", "i5", "i0", "n", "n"]), SumWire("k", ["m", "n"]),
        ]
        pairs = {}
        for wire in wires:
            pairs[wire.name] = wire.hang(pairs)
        for row in (0, 1, 32, 33, 63):
            for state in (0, 1, 2 ** 15, 2 ** 15 + 1, 2 ** 16 - 1):
                bits = {}
                for wire in wires:
                    bits[wire.name] = wire.bit(bits, row, state)
                    stores, inputs = pairs[wire.name]
                    self.assertEqual(bits[wire.name], parity(stores & state) ^ parity(inputs & row))


if __name__ == "__main__":
    unittest.main()
