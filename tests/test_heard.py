"""Point 91, with 4 and 5, and the interface of sumwires.heard."""

import itertools
import unittest

from reckon import THINGS, draw, rising, walk
from sumwires.errors import BadRow, WireError
from sumwires.heard import heard
from sumwires.machines import Machine


def shortest_rule(row):
    """The length of the shortest rule by the way of Berlekamp and Massey."""
    rule, older, length, since = 1, 1, 0, 1
    for place in range(len(row)):
        wrong = row[place]
        for back in range(1, length + 1):
            wrong ^= rule >> back & 1 and row[place - back]
        if not wrong:
            since += 1
        elif 2 * length <= place:
            rule, older, length, since = rule ^ older << since, rule, place + 1 - length, 1
        else:
            rule, since = rule ^ older << since, since + 1
    return length


class Papers(unittest.TestCase):
    def holds(self, row):
        kept = list(row)
        paper = heard(row)
        self.assertEqual(row, kept)
        self.assertIs(type(paper), tuple)
        machine, start, times = paper
        self.assertIsInstance(machine, Machine)
        self.assertEqual((machine.inputs, machine.outputs()), (0, 1))
        count = machine.stores()
        self.assertLessEqual(count, len(row))
        self.assertIs(type(start), int)
        self.assertTrue(0 <= start < 2 ** count)
        self.assertEqual(walk(machine.told(), [0] * len(row), start)[0], row)
        self.assertTrue(rising(times))
        if count == 0:
            self.assertEqual(times, [])
            return 0
        for time in times:
            self.assertTrue(0 <= time and time + count - 1 < len(row))
        for place in range(count - 1):
            self.assertEqual(sum(row[time + place] for time in times) % 2, 0)
        self.assertEqual(sum(row[time + count - 1] for time in times) % 2, 1)
        return count


class HeardTest(Papers):
    def test_no_bits_and_bits_0(self):
        self.assertEqual(self.holds([]), 0)
        for count in range(41):
            self.assertEqual(self.holds([0] * count), 0)
            self.assertEqual(heard([0] * count)[1:], (0, []))

    def test_a_single_1_at_each_place(self):
        for place in range(40):
            self.assertEqual(self.holds([0] * place + [1] + [0] * (39 - place)), place + 1)
        for count in range(1, 41):
            self.assertEqual(self.holds([0] * (count - 1) + [1]), count)

    def test_all_bits_1(self):
        for count in range(1, 41):
            self.assertEqual(self.holds([1] * count), 1)

    def test_all_short_rows(self):
        for count in range(1, 10):
            for row in itertools.product((0, 1), repeat=count):
                self.assertEqual(self.holds(list(row)), shortest_rule(row))

    def test_drawn_rows_of_forty_bits(self):
        for seed in range(60):
            chance = draw(seed)
            row = [chance.randrange(2) for _ in range(40)]
            self.assertEqual(self.holds(row), shortest_rule(row))

    def test_rows_of_small_machines(self):
        for seed in range(60):
            chance = draw(seed)
            count = chance.randrange(1, 12)
            told = (0, [(chance.randrange(2 ** count), 0) for _ in range(count)], [(chance.randrange(2 ** count), 0)])
            row = walk(told, [0] * 40, chance.randrange(2 ** count))[0]
            self.assertLessEqual(self.holds(row), count)

    def test_no_machine_of_fewer_stores_by_trying_all(self):
        made = set()
        for one in itertools.product(range(4), repeat=2):
            for out in range(4):
                for start in range(4):
                    told = (0, [(mask, 0) for mask in one], [(out, 0)])
                    made.add(tuple(walk(told, [0] * 6, start)[0]))
        for row in itertools.product((0, 1), repeat=6):
            self.assertEqual(self.holds(list(row)) <= 2, row in made)

    def test_the_same_each_time_and_new_lists(self):
        row = [0, 0, 1, 1, 0, 1]
        first = heard(row=row)
        before = first[0].told(), first[1], list(first[2])
        first[2].append(9)
        row.append(1)
        again = heard([0, 0, 1, 1, 0, 1])
        self.assertEqual((again[0].told(), again[1], again[2]), before)


class RefusedTest(unittest.TestCase):
    def refused(self, thing):
        with self.assertRaises(WireError) as caught:
            heard(thing)
        self.assertIs(type(caught.exception), BadRow)

    def test_what_is_no_list(self):
        for thing in THINGS + [0, 1, (0, 1), "01", 10]:
            with self.subTest(thing=thing):
                self.refused(thing)

    def test_what_is_no_bit(self):
        for thing in THINGS + [[0], [], 2, 3, 2 ** 70]:
            for place in range(3):
                row = [0, 1]
                row.insert(place, thing)
                with self.subTest(thing=thing, place=place):
                    self.refused(row)
        self.refused([0] * 39 + [True])
        self.refused([False])

    def test_more_than_forty(self):
        self.refused([0] * 41)
        self.refused([1] * 41)


if __name__ == "__main__":
    unittest.main()
