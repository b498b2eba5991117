"""Points 71 and 72, with 4, and the interface of sumwires.least."""

import unittest

from reckon import are_free, draw, drawn_rows, drawn_table, drawn_tables, turn, walk
from sumwires.least import least
from sumwires.machines import Machine


def is_alike(one, other):
    """Both are handed each single sign; what both come to is so many turns long."""
    turns = len(one[1]) + len(other[1]) + 1
    for which in range(one[0]):
        rows = [1 << which] + [0] * turns
        if walk(one, rows)[0] != walk(other, rows)[0]:
            return False
    return True


class Papers(unittest.TestCase):
    def holds(self, told):
        machine = Machine(*told)
        paper = least(machine)
        self.assertEqual(machine.told(), told)
        self.assertIs(type(paper), tuple)
        self.assertEqual(len(paper), 3)
        other, rows, looks = paper
        self.assertIsInstance(other, Machine)
        self.assertEqual((other.inputs, other.outputs()), (told[0], len(told[2])))
        self.assertTrue(is_alike(told, other.told()))
        count = other.stores()
        self.assertEqual([type(rows), type(looks), len(rows), len(looks)], [list, list, count, count])
        table = []
        for one in rows:
            self.assertIs(type(one), list)
            self.assertEqual(len(one), len(told[1]))
            for row in one:
                self.assertIs(type(row), int)
                self.assertTrue(0 <= row < 2 ** told[0])
            table.append(self.look_at(told, walk(told, one)[1], looks))
        self.assertTrue(are_free(table))
        self.assertEqual(len({id(one) for one in rows}), count)
        return count

    def look_at(self, told, state, looks):
        bits = 0
        for place, look in enumerate(looks):
            self.assertEqual([type(look)] + [type(part) for part in look], [tuple, int, int])
            turns, output = look
            self.assertTrue(0 <= turns <= 120 and 0 <= output < len(told[2]))
            late = walk(told, [0] * turns, state)[1]
            bits |= (turn(told, late, 0)[0] >> output & 1) << place
        return bits


class LeastTest(Papers):
    def test_drawn_machines(self):
        counts = [self.holds(told) for told in drawn_tables(31, 150, shares=(2, 3, 6, 10))]
        self.assertGreater(len(set(counts)), 8)

    def test_answers_alike_to_drawn_rows(self):
        for seed, told in enumerate(drawn_tables(32, 40, shares=(2, 6, 10))):
            rows = drawn_rows(draw(seed), told[0], 40)
            self.assertEqual(walk(least(Machine(*told))[0].told(), rows)[0], walk(told, rows)[0])

    def test_no_stores(self):
        other, rows, looks = least(Machine(2, [], [(0, 1), (0, 3)]))
        self.assertEqual((other.told(), rows, looks), ((2, [], [(0, 1), (0, 3)]), [], []))

    def test_no_inputs(self):
        self.assertEqual(self.holds((0, [(2, 0), (1, 0)], [(1, 0)])), 0)

    def test_no_outs(self):
        self.assertEqual(self.holds((2, [(2, 1), (1, 2)], [])), 0)

    def test_nothing(self):
        self.assertEqual(self.holds((0, [], [])), 0)

    def test_stores_that_are_never_come_to(self):
        self.assertEqual(self.holds((1, [(0, 1), (2, 0)], [(3, 0)])), 1)
        self.assertEqual(self.holds((1, [(2, 0), (2, 0)], [(3, 0)])), 0)

    def test_stores_that_never_show(self):
        self.assertEqual(self.holds((1, [(0, 1), (3, 1)], [(1, 0)])), 1)
        self.assertEqual(self.holds((1, [(0, 1), (3, 1)], [(0, 1)])), 0)

    def test_twins_show_as_one(self):
        self.assertEqual(self.holds((1, [(0, 1), (0, 1)], [(3, 0), (0, 0)])), 0)
        self.assertEqual(self.holds((1, [(0, 1), (0, 1)], [(1, 0), (2, 0)])), 1)

    def test_chains(self):
        for count in (1, 2, 7, 16):
            nexts = [(0, 1)] + [(1 << store, 0) for store in range(count - 1)]
            self.assertEqual(self.holds((1, nexts, [(1 << count - 1, 0)])), count)
            self.assertEqual(self.holds((1, nexts, [(1, 0)])), 1)

    def test_sixteen_stores(self):
        chance = draw(33)
        self.assertEqual(self.holds(drawn_table(chance, 6, 16, 6)), 16)
        for share in (2, 4, 8, 12):
            for _ in range(4):
                self.holds(drawn_table(chance, chance.randrange(1, 7), 16, chance.randrange(1, 7), share))

    def test_the_least_one_has_no_lesser_one(self):
        for told in drawn_tables(34, 40, shares=(2, 6, 10)):
            other = least(Machine(*told))[0]
            self.assertEqual(self.holds(other.told()), other.stores())

    def test_no_lesser_one_by_trying_all(self):
        for told in drawn_tables(35, 60, most=(1, 2, 1), shares=(2,)):
            count = least(Machine(*told))[0].stores()
            if count == 0:
                continue
            for fewer in range(count):
                self.assertEqual([one for one in all_tables(told[0], fewer, len(told[2])) if is_alike(told, one)], [])

    def test_the_same_each_time_and_new_lists(self):
        told = drawn_table(draw(36), 2, 5, 2)
        machine = Machine(*told)
        first = least(machine=machine)
        before = first[0].told(), repr(first[1:])
        first[1][0].append(7)
        first[1].pop()
        first[2].append((0, 0))
        again = least(machine)
        self.assertEqual((again[0].told(), repr(again[1:])), before)


def all_tables(inputs, stores, outs):
    pairs = [(one, other) for one in range(2 ** stores) for other in range(2 ** inputs)]

    def lists(count):
        told = [[]]
        for _ in range(count):
            told = [one + [pair] for one in told for pair in pairs]
        return told

    return [(inputs, nexts, shown) for nexts in lists(stores) for shown in lists(outs)]


if __name__ == "__main__":
    unittest.main()
