"""Points 41 to 44, with 2, 4 and 5, and the interface of sumwires.machines."""

import unittest

from reckon import LISTS, THINGS, draw, drawn_rows, drawn_table, drawn_tables, parity, taken_back, turn, walk
from sumwires.errors import BadMask, BadTable, WireError
from sumwires.machines import Machine

NEXTS = [(2, 1), (3, 0), (4, 3)]
OUTS = [(5, 2), (0, 3)]


def unit(stores):
    return [(1 << store, 0) for store in range(stores)]


class Refusals(unittest.TestCase):
    def refused(self, error, call, *things):
        with self.assertRaises(WireError) as caught:
            call(*things)
        self.assertIs(type(caught.exception), error)


class MadeTest(Refusals):
    def test_fields(self):
        machine = Machine(2, list(NEXTS), list(OUTS))
        self.assertEqual((machine.inputs, machine.nexts, machine.outs), (2, tuple(NEXTS), tuple(OUTS)))
        self.assertIs(type(machine.nexts), tuple)
        self.assertIs(type(machine.outs), tuple)
        self.assertEqual((machine.stores(), machine.outputs()), (3, 2))
        self.assertEqual(machine.told(), (2, NEXTS, OUTS))
        self.assertIs(type(machine.told()), tuple)
        self.assertEqual([type(part) for part in machine.told()], [int, list, list])

    def test_by_keywords(self):
        self.assertEqual(Machine(inputs=2, nexts=NEXTS, outs=OUTS).told(), (2, NEXTS, OUTS))

    def test_nothing_at_all(self):
        machine = Machine(0, [], [])
        self.assertEqual((machine.told(), machine.stores(), machine.outputs()), ((0, [], []), 0, 0))

    def test_lists_may_be_changed(self):
        nexts, outs = list(NEXTS), list(OUTS)
        machine = Machine(2, nexts, outs)
        nexts[0] = (0, 0)
        outs.clear()
        for told in machine.told()[1:]:
            told.append((7, 7))
            told[0] = (0, 0)
        self.assertEqual(machine.told(), (2, NEXTS, OUTS))
        self.assertEqual(machine.step(5, 2), turn((2, NEXTS, OUTS), 5, 2))

    def test_bounds(self):
        for inputs in range(7):
            self.assertEqual(Machine(inputs, [], [(0, 2 ** inputs - 1)]).inputs, inputs)
        self.assertEqual(Machine(0, unit(120), []).stores(), 120)
        self.assertEqual(Machine(0, [(2 ** 120 - 1, 0)] * 120, []).stores(), 120)
        self.assertEqual(Machine(0, [], [(0, 0)] * 6).outputs(), 6)
        self.refused(BadTable, Machine, 7, [], [])
        self.refused(BadTable, Machine, -1, [], [])
        self.refused(BadTable, Machine, 0, unit(120) + [(0, 0)], [])
        self.refused(BadTable, Machine, 0, [], [(0, 0)] * 7)

    def test_number_of_inputs_of_other_kinds(self):
        for thing in THINGS + LISTS + [7, 100]:
            with self.subTest(thing=thing):
                self.refused(BadTable, Machine, thing, [], [])

    def test_what_is_no_list(self):
        for thing in THINGS + [0, 1, tuple(NEXTS)]:
            with self.subTest(thing=thing):
                self.refused(BadTable, Machine, 2, thing, [])
                self.refused(BadTable, Machine, 2, [], thing)

    def test_what_is_no_pair(self):
        pairs = [thing for thing in THINGS + LISTS if thing != (0, 0)]
        pairs += [0, [0, 0], (0,), (0, 0, 0), ((0, 0),), ([0], 0), (0, None), (None, 0), (0, True), (False, 0)]
        pairs += [(0, "0"), ("0", 0), (0.0, 0), (0, 0.0), (-1, 0), (0, -1), (8, 0), (0, 4), (2 ** 200, 0), ((), ())]
        for pair in pairs:
            for place in range(3):
                with self.subTest(pair=pair, place=place):
                    nexts = list(NEXTS)
                    nexts[place] = pair
                    self.refused(BadTable, Machine, 2, nexts, list(OUTS))
            for place in range(2):
                outs = list(OUTS)
                outs[place] = pair
                self.refused(BadTable, Machine, 2, list(NEXTS), outs)

    def test_masks_just_as_wide(self):
        self.assertEqual(Machine(2, [(7, 3)] * 3, [(7, 3)]).stores(), 3)
        self.refused(BadTable, Machine, 0, [], [(1, 0)])
        self.refused(BadTable, Machine, 0, [], [(0, 1)])

    def test_lists_that_are_refused_stay(self):
        nexts, outs = [(0, 0)], [(2, 0)]
        self.refused(BadTable, Machine, 0, nexts, outs)
        self.assertEqual((nexts, outs), ([(0, 0)], [(2, 0)]))


class StepTest(Refusals):
    def test_all_states_and_rows(self):
        machine = Machine(2, NEXTS, OUTS)
        for state in range(8):
            for row in range(4):
                told = machine.step(state, row)
                self.assertIs(type(told), tuple)
                self.assertEqual([type(part) for part in told], [int, int])
                self.assertEqual(told, turn((2, NEXTS, OUTS), state, row))

    def test_by_hand(self):
        machine = Machine(1, [(0, 1), (1, 0)], [(2, 1), (3, 0)])
        self.assertEqual(machine.step(0, 0), (0, 0))
        self.assertEqual(machine.step(0, 1), (1, 1))
        self.assertEqual(machine.step(1, 0), (2, 2))
        self.assertEqual(machine.step(2, 1), (2, 1))
        self.assertEqual(machine.step(3, 0), (1, 2))

    def test_drawn_machines(self):
        for seed, told in enumerate(drawn_tables(3, 60)):
            chance = draw(seed)
            machine = Machine(*told)
            for _ in range(10):
                state, row = chance.randrange(2 ** len(told[1])), chance.randrange(2 ** told[0])
                self.assertEqual(machine.step(state=state, row=row), turn(told, state, row))

    def test_without_inputs_stores_outs(self):
        self.assertEqual(Machine(0, [], []).step(0, 0), (0, 0))
        self.assertEqual(Machine(0, [(1, 0)], []).step(1, 0), (0, 1))
        self.assertEqual(Machine(2, [], [(0, 3), (0, 1)]).step(0, 1), (3, 0))

    def test_a_hundred_and_twenty_stores(self):
        chance = draw(7)
        told = drawn_table(chance, 6, 120, 6)
        for _ in range(5):
            state, row = chance.randrange(2 ** 120), chance.randrange(64)
            self.assertEqual(Machine(*told).step(state, row), turn(told, state, row))

    def test_refused(self):
        machine = Machine(2, NEXTS, OUTS)
        for thing in THINGS + LISTS + [8, 2 ** 90]:
            with self.subTest(thing=thing):
                self.refused(BadMask, machine.step, thing, 0)
                self.refused(BadMask, machine.step, thing, None)
        for thing in THINGS + LISTS + [4, 2 ** 90]:
            with self.subTest(thing=thing):
                self.refused(BadMask, machine.step, 0, thing)
        self.refused(BadMask, Machine(0, [], []).step, 1, 0)
        self.refused(BadMask, Machine(0, [], []).step, 0, 1)


class RunTest(Refusals):
    def test_drawn_machines(self):
        for seed, told in enumerate(drawn_tables(4, 60)):
            chance = draw(seed)
            machine = Machine(*told)
            rows = drawn_rows(chance, told[0], 12)
            kept = list(rows)
            state = chance.randrange(2 ** len(told[1]))
            self.assertEqual(machine.run(rows), walk(told, rows)[0])
            self.assertEqual(machine.after(rows), walk(told, rows)[1])
            self.assertEqual(machine.run(rows, state), walk(told, rows, state)[0])
            self.assertEqual(machine.after(rows=rows, state=state), walk(told, rows, state)[1])
            self.assertEqual(machine.run(rows=rows, state=state), walk(told, rows, state)[0])
            self.assertEqual(rows, kept)

    def test_no_rows(self):
        machine = Machine(2, NEXTS, OUTS)
        self.assertEqual(machine.run([]), [])
        self.assertEqual(machine.run([], 5), [])
        self.assertEqual(machine.after([]), 0)
        for state in range(8):
            self.assertEqual(machine.after([], state), state)

    def test_three_hundred_rows(self):
        told = drawn_table(draw(8), 6, 120, 6)
        rows = drawn_rows(draw(9), 6, 300)
        self.assertEqual(Machine(*told).run(rows), walk(told, rows)[0])

    def test_told_lists_are_new(self):
        machine = Machine(2, NEXTS, OUTS)
        machine.run([1, 2]).append(9)
        self.assertEqual(machine.run([1, 2]), walk((2, NEXTS, OUTS), [1, 2])[0])

    def test_rows_that_are_none(self):
        machine = Machine(2, NEXTS, OUTS)
        for thing in THINGS + LISTS + [4]:
            for place in range(4):
                rows = [1, 2, 3]
                rows.insert(place, thing)
                with self.subTest(thing=thing, place=place):
                    self.refused(BadMask, machine.run, rows)
                    self.refused(BadMask, machine.after, rows, 7)

    def test_states_that_are_none(self):
        machine = Machine(2, NEXTS, OUTS)
        for thing in THINGS + LISTS + [8]:
            for rows in ([], [0], [1, 2]):
                with self.subTest(thing=thing, rows=rows):
                    self.refused(BadMask, machine.run, rows, thing)
                    self.refused(BadMask, machine.after, rows, thing)


class SingleTest(Refusals):
    def test_each_input(self):
        for told in drawn_tables(5, 30):
            machine = Machine(*told)
            for which in range(told[0]):
                for turns in (0, 1, 2, 9):
                    rows = ([1 << which] + [0] * 9)[:turns]
                    self.assertEqual(machine.single(which, turns), walk(told, rows)[0])

    def test_no_turns(self):
        told = Machine(1, [(0, 1)], [(1, 1)]).single(0, 0)
        self.assertEqual(told, [])
        self.assertIs(type(told), list)

    def test_by_hand(self):
        machine = Machine(2, [(0, 1), (1, 0)], [(2, 0), (0, 2)])
        self.assertEqual(machine.single(0, 4), [0, 0, 1, 0])
        self.assertEqual(machine.single(which=1, turns=4), [2, 0, 0, 0])

    def test_three_hundred_turns(self):
        told = (1, [(2, 1), (3, 0)], [(1, 0)])
        self.assertEqual(Machine(*told).single(0, 300), walk(told, [1] + [0] * 299)[0])

    def test_what_is_no_inputs_number(self):
        machine = Machine(2, NEXTS, OUTS)
        for thing in THINGS + LISTS + [2, 3, 2 ** 70]:
            for turns in (0, 1, 5):
                with self.subTest(thing=thing, turns=turns):
                    self.refused(BadMask, machine.single, thing, turns)
        self.refused(BadMask, Machine(0, [], []).single, 0, 0)


class BackTest(Refusals):
    def test_0_single_bits_and_sums(self):
        machine = Machine(2, NEXTS, OUTS)
        self.assertEqual(machine.back(0), (0, 0))
        self.assertEqual([machine.back(1), machine.back(2), machine.back(4)], NEXTS)
        self.assertEqual(machine.back(3), (1, 1))
        self.assertEqual(machine.back(mask=7), (5, 2))
        self.assertIs(type(machine.back(5)), tuple)

    def test_drawn_machines(self):
        for seed, told in enumerate(list(drawn_tables(6, 40)) + [drawn_table(draw(1), 6, 120, 6)]):
            chance = draw(seed)
            machine = Machine(*told)
            for _ in range(8):
                mask, state = [chance.randrange(2 ** len(told[1])) for _ in range(2)]
                row = chance.randrange(2 ** told[0])
                stores, inputs = machine.back(mask)
                self.assertEqual((stores, inputs), taken_back(told, mask))
                after = turn(told, state, row)[1]
                self.assertEqual(parity(mask & after), parity(stores & state) ^ parity(inputs & row))

    def test_no_stores(self):
        machine = Machine(2, [], [])
        self.assertEqual(machine.back(0), (0, 0))
        self.refused(BadMask, machine.back, 1)

    def test_what_is_no_mask(self):
        machine = Machine(2, NEXTS, OUTS)
        for thing in THINGS + LISTS + [8, 2 ** 130]:
            with self.subTest(thing=thing):
                self.refused(BadMask, machine.back, thing)


if __name__ == "__main__":
    unittest.main()
