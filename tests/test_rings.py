"""Point 94, with 5, and the interface of sumwires.rings."""

import unittest

from reckon import LISTS, THINGS, draw, drawn_table, drawn_tables, turn
from sumwires.errors import BadMask, WireError
from sumwires.machines import Machine
from sumwires.rings import ring_of


def walked_round(told, state):
    """All states are walked until one comes again."""
    columns = [turn(told, 1 << store, 0)[1] for store in range(len(told[1]))]
    seen = {}
    while state not in seen:
        seen[state] = len(seen)
        after = 0
        for store, column in enumerate(columns):
            if state >> store & 1:
                after ^= column
        state = after
    return seen[state], len(seen) - seen[state]


def shifted(feedback, stores=16):
    """A ring of stores in which the last one is fed back as this mask tells."""
    return 1, [(1 << store + 1, 0) for store in range(stores - 1)] + [(feedback, 0)], [(1, 1)]


class RingTest(unittest.TestCase):
    def holds(self, told, state):
        machine = Machine(*told)
        paper = ring_of(machine, state)
        self.assertEqual([type(paper)] + [type(part) for part in paper], [tuple, int, int])
        self.assertEqual(paper, walked_round(told, state))
        self.assertEqual(machine.told(), told)
        return paper

    def test_the_state_0(self):
        for told in drawn_tables(81, 30):
            self.assertEqual(self.holds(told, 0), (0, 1))

    def test_all_states_of_small_machines(self):
        seen = set()
        for told in drawn_tables(82, 80, most=(2, 6, 2), shares=(2, 3, 5)):
            for state in range(2 ** len(told[1])):
                seen.add(self.holds(told, state))
        self.assertGreater(len(seen), 20)

    def test_sixteen_stores(self):
        for seed in range(20):
            chance = draw(seed)
            told = drawn_table(chance, 2, 16, 2, share=chance.choice([2, 8, 14]))
            for _ in range(3):
                self.holds(told, chance.randrange(2 ** 16))

    def test_no_stores(self):
        self.assertEqual(ring_of(Machine(2, [], [(0, 1)]), 0), (0, 1))
        self.assertEqual(ring_of(machine=Machine(0, [], []), state=0), (0, 1))

    def test_leads(self):
        nexts = [(0, 0)] + [(1 << store, 0) for store in range(15)]
        for store in range(16):
            self.assertEqual(self.holds((0, nexts, []), 1 << store), (16 - store, 1))
        mixed = (0, [(2, 0), (3, 0), (0, 0), (4, 0)], [])
        self.assertEqual(self.holds(mixed, 0b0101), (2, 3))
        self.assertEqual(self.holds(mixed, 0b1001), (1, 3))
        self.assertEqual(self.holds(mixed, 0b0001), (0, 3))
        self.assertEqual(self.holds(mixed, 0b1000), (1, 1))

    def test_rings_of_great_length(self):
        self.assertEqual(self.holds(shifted(0x002d), 1), (0, 65535))
        self.assertEqual(self.holds(shifted(0x002d), 0xffff), (0, 65535))
        self.assertEqual(self.holds(shifted(1), 1), (0, 16))
        self.assertEqual(self.holds(shifted(1), 0x5555), (0, 2))
        self.assertEqual(self.holds(shifted(0x8005), 1), walked_round(shifted(0x8005), 1))

    def test_inputs_and_outs_change_nothing(self):
        told = drawn_table(draw(83), 3, 6, 2)
        bare = 0, [(one, 0) for one, _ in told[1]], []
        for state in range(64):
            self.assertEqual(ring_of(Machine(*told), state), ring_of(Machine(*bare), state))

    def test_what_is_no_state(self):
        machine = Machine(1, [(2, 0), (1, 1)], [])
        for thing in THINGS + LISTS + [4, 2 ** 70]:
            with self.subTest(thing=thing), self.assertRaises(WireError) as caught:
                ring_of(machine, thing)
            self.assertIs(type(caught.exception), BadMask)
        with self.assertRaises(BadMask):
            ring_of(Machine(1, [], []), 1)


if __name__ == "__main__":
    unittest.main()
