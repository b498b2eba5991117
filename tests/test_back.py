"""Points 81 to 84, with 4, and the interface of sumwires.back."""

import itertools
import unittest

from reckon import at, draw, drawn_rows, drawn_table, drawn_tables, rising, turn, walk
from sumwires.back import told_back
from sumwires.machines import Machine


def chain(stores):
    """One input that goes through so many stores."""
    if stores == 0:
        return 1, [], [(0, 1)]
    return 1, [(0, 1)] + [(1 << store, 0) for store in range(stores - 1)], [(1 << stores - 1, 0)]


def beside(one, other):
    """Two machines as one, with the inputs and the outs of both."""
    def moved(pairs):
        return [(first << len(one[1]), second << one[0]) for first, second in pairs]

    return one[0] + other[0], one[1] + moved(other[1]), one[2] + moved(other[2])


class Papers(unittest.TestCase):
    def holds(self, told, chance):
        machine = Machine(*told)
        paper = told_back(machine)
        self.assertEqual(machine.told(), told)
        self.assertIs(type(paper), tuple)
        if paper[0] == "back":
            self.assertEqual(len(paper), 4)
            self.back_holds(told, paper[1], paper[2], paper[3], chance)
            return paper[1]
        self.assertEqual((paper[0], len(paper)), ("never", 6))
        self.never_holds(told, *paper[1:])
        return None

    def back_holds(self, told, delay, other, rows, chance):
        self.assertIs(type(delay), int)
        self.assertTrue(0 <= delay <= len(told[1]))
        self.assertIsInstance(other, Machine)
        self.assertEqual((other.inputs, other.outputs()), (len(told[2]), told[0]))
        self.assertLessEqual(other.stores(), 112)
        self.are_rows(told, rows)
        self.assertEqual(len(rows), delay)
        if delay > 0:
            self.assertNotEqual(rows[0], 0)
            self.assertEqual(walk(told, rows)[0], [0] * delay)
        # Both machines' answers add up, so that single signs show all there is, over so many turns.
        turns = len(told[1]) + other.stores() + delay + 2
        handed = [[1 << which] + [0] * turns for which in range(told[0])]
        handed.append(drawn_rows(chance, told[0], delay + 30))
        for one in handed:
            given = walk(other.told(), walk(told, one)[0])[0]
            self.assertEqual(given[:delay], [0] * delay)
            self.assertEqual(given[delay:], one[:len(one) - delay])

    def never_holds(self, told, first, begin, states, inputs, sums):
        self.are_rows(told, [first])
        self.are_rows(told, inputs)
        self.assertNotEqual(first, 0)
        self.assertEqual([type(states), type(sums)], [list, list])
        self.assertEqual((len(inputs), len(sums)), (len(states), len(states)))
        self.assertTrue(rising(begin))
        self.assertEqual(turn(told, 0, first), (0, at(states, begin)))
        for state, row, places in zip(states, inputs, sums):
            self.assertIs(type(state), int)
            self.assertTrue(0 <= state < 2 ** len(told[1]))
            self.assertTrue(rising(places))
            self.assertEqual(turn(told, state, row), (0, at(states, places)))

    def are_rows(self, told, rows):
        self.assertIs(type(rows), list)
        for row in rows:
            self.assertIs(type(row), int)
            self.assertTrue(0 <= row < 2 ** told[0])


class BackTest(Papers):
    def test_drawn_machines(self):
        seen = []
        for seed, told in enumerate(drawn_tables(51, 120, shares=(2, 3, 5, 9))):
            seen.append(self.holds(told, draw(seed)))
        self.assertGreater(seen.count(None), 20)
        self.assertGreater(len(seen) - seen.count(None), 20)

    def test_one_input_and_one_out(self):
        seen = []
        for seed, told in enumerate(drawn_tables(52, 150, most=(1, 8, 1), shares=(3, 5, 8))):
            seen.append(self.holds(told, draw(seed)))
        self.assertGreater(len(set(seen)), 4)

    def test_no_inputs(self):
        for told in ((0, [], []), (0, [], [(0, 0)]), (0, [(2, 0), (3, 0)], [(1, 0)] * 6), (0, [(1, 0)] * 16, [])):
            self.assertEqual(self.holds(told, draw(1)), 0)

    def test_more_inputs_than_outs(self):
        chance = draw(53)
        for _ in range(40):
            inputs = 1 + chance.randrange(6)
            told = drawn_table(chance, inputs, chance.randrange(17), chance.randrange(inputs), 3)
            self.assertIsNone(self.holds(told, chance))

    def test_chains_of_stores(self):
        for stores in range(17):
            self.assertEqual(self.holds(chain(stores), draw(stores)), stores)

    def test_chains_beside_one_another(self):
        for one, other in ((0, 0), (0, 5), (3, 2), (8, 8), (1, 15)):
            self.assertEqual(self.holds(beside(chain(one), chain(other)), draw(one)), max(one, other))

    def test_six_chains(self):
        told = chain(0)
        for stores in (1, 1, 2, 5, 7):
            told = beside(told, chain(stores))
        self.assertEqual(self.holds(told, draw(54)), 7)

    def test_six_inputs_whose_signs_are_mixed(self):
        # A late chain, with outs that are sums of one another: as many outs, all needed.
        told = chain(11)
        for stores in (0, 1, 1, 1, 2):
            told = beside(told, chain(stores))
        outs, mixed = told[2], []
        for place, (one, other) in enumerate(outs):
            for one_more, other_more in outs[:place]:
                one, other = one ^ one_more, other ^ other_more
            mixed.append((one, other))
        told = told[0], told[1], mixed
        self.assertEqual(self.holds(told, draw(55)), 11)

    def test_sixteen_stores_with_six_outs_told_back_late(self):
        # The one input shows late at each of six outs, so that all answers between are kept.
        nexts = [(0, 1)] + [(1 << store, 0) for store in range(15)]
        told = 1, nexts, [(1 << 15, 0)] * 6
        self.assertEqual(self.holds(told, draw(56)), 16)

    def test_stores_that_go_on_by_themselves(self):
        told = 1, [(2, 1), (3, 1)], [(1, 1)]
        self.assertEqual(self.holds(told, draw(57)), 0)
        self.assertEqual(self.holds((1, [(1, 1)], [(1, 0)]), draw(58)), 1)

    def test_what_is_never_told(self):
        self.assertIsNone(self.holds((1, [], [(0, 0)]), draw(59)))
        self.assertIsNone(self.holds((1, [(0, 1)], [(0, 0)]), draw(60)))
        self.assertIsNone(self.holds((1, [(0, 1)], []), draw(61)))
        self.assertIsNone(self.holds((2, [(0, 1), (0, 2)], [(3, 0), (3, 0)]), draw(62)))
        self.assertIsNone(self.holds((2, [(0, 3)], [(1, 0), (0, 3)]), draw(63)))
        self.assertIsNone(self.holds((6, [(0, 0)] * 16, [(0, 31)] * 6), draw(64)))

    def test_the_least_delay_by_trying_all(self):
        seen = []
        for told in drawn_tables(65, 80, most=(2, 3, 2), shares=(2, 3)):
            delay = self.holds(told, draw(66))
            seen.append(delay)
            for count in range(1, 4 if told[0] == 2 else 5):
                silent = any(
                    walk(told, rows)[0] == [0] * count
                    for rows in itertools.product(range(2 ** told[0]), repeat=count) if rows[0]
                )
                self.assertEqual(silent, delay is None or delay >= count)
        self.assertGreater(len(set(seen)), 2)

    def test_sixteen_stores(self):
        chance = draw(67)
        seen = []
        for _ in range(40):
            inputs = 1 + chance.randrange(3)
            told = drawn_table(chance, inputs, 16, inputs + chance.randrange(2), chance.choice([4, 8, 14, 20]))
            seen.append(self.holds(told, chance))
        self.assertGreater(len(set(seen)), 3)

    def test_the_same_each_time_and_new_lists(self):
        machine = Machine(*chain(3))
        first = told_back(machine=machine)
        before = first[1], first[2].told(), list(first[3])
        first[3].append(7)
        again = told_back(machine)
        self.assertEqual((again[1], again[2].told(), again[3]), before)
        silent = Machine(1, [(0, 1), (2, 0)], [(0, 0)])
        before = repr(told_back(silent))
        told = told_back(silent)
        for one in told[2:] + tuple(told[5]):
            one.append(7)
        self.assertEqual(repr(told_back(silent)), before)


if __name__ == "__main__":
    unittest.main()
