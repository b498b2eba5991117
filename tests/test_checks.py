"""Points 101 to 104, with 4 and 5, and the interface of sumwires.checks."""

import itertools
import unittest

from reckon import LISTS, THINGS, all_sums, are_free, draw, drawn_rows, drawn_table, drawn_tables, parity, rank_of, walk
from sumwires.checks import check_masks, missed, missed_base, missed_share
from sumwires.errors import BadRow, WireError
from sumwires.machines import Machine


def as_mask(rows, inputs):
    return sum(row << turn * inputs for turn, row in enumerate(rows))


def check_columns(told, turns):
    """The checks of all rows that have just one bit."""
    columns = []
    for turn in range(turns):
        for which in range(told[0]):
            rows = [0] * turns
            rows[turn] = 1 << which
            columns.append(walk(told, rows)[1])
    return columns


class Asking(unittest.TestCase):
    def refused(self, call, *things):
        with self.assertRaises(WireError) as caught:
            call(*things)
        self.assertIs(type(caught.exception), BadRow)


class MasksTest(Asking):
    def holds(self, told, turns):
        masks = check_masks(Machine(*told), turns)
        self.assertIs(type(masks), list)
        self.assertEqual(len(masks), len(told[1]))
        columns = check_columns(told, turns)
        for store, mask in enumerate(masks):
            self.assertIs(type(mask), int)
            self.assertEqual(mask, sum((column >> store & 1) << place for place, column in enumerate(columns)))
        return masks

    def test_drawn_machines(self):
        for seed, told in enumerate(drawn_tables(91, 60)):
            chance = draw(seed)
            turns = chance.choice([0, 1, 2, 5, 20])
            masks = self.holds(told, turns)
            rows = drawn_rows(chance, told[0], turns)
            check = sum(parity(mask & as_mask(rows, told[0])) << store for store, mask in enumerate(masks))
            self.assertEqual(check, walk(told, rows)[1])

    def test_by_hand(self):
        machine = Machine(2, [(0, 1), (1, 2)], [])
        self.assertEqual(check_masks(machine, 0), [0, 0])
        self.assertEqual(check_masks(machine, 1), [0b01, 0b10])
        self.assertEqual(check_masks(machine=machine, turns=2), [0b0100, 0b1001])

    def test_no_stores_no_inputs(self):
        self.assertEqual(check_masks(Machine(3, [], []), 20), [])
        self.assertEqual(check_masks(Machine(0, [(1, 0), (3, 0)], []), 20), [0, 0])

    def test_as_many_bits_as_can_be(self):
        self.holds(drawn_table(draw(92), 6, 16, 6), 20)

    def test_numbers_of_turns(self):
        machine = Machine(1, [(1, 1)], [])
        for turns in range(21):
            self.assertEqual(check_masks(machine, turns), [2 ** turns - 1])
        for thing in THINGS + LISTS + [21, 300, 2 ** 70]:
            with self.subTest(thing=thing):
                for call in (check_masks, missed_share, missed_base):
                    self.refused(call, machine, thing)


class MissedTest(Asking):
    def test_drawn_machines(self):
        seen = {True: 0, False: 0}
        for seed, told in enumerate(drawn_tables(93, 40, most=(2, 3, 1), shares=(2, 3))):
            machine = Machine(*told)
            for count in range(4):
                for rows in itertools.product(range(2 ** told[0]), repeat=count):
                    told_missed = missed(machine, list(rows))
                    self.assertIs(type(told_missed), bool)
                    self.assertEqual(told_missed, any(rows) and walk(told, rows)[1] == 0)
                    seen[told_missed] += 1
        self.assertGreater(min(seen.values()), 100)

    def test_rows_all_0_are_not_missed(self):
        machine = Machine(1, [(0, 1)], [])
        for count in range(21):
            self.assertIs(missed(machine, [0] * count), False)

    def test_no_stores_no_inputs(self):
        self.assertIs(missed(Machine(1, [], []), [0, 1]), True)
        self.assertIs(missed(Machine(1, [], []), [0, 0]), False)
        self.assertIs(missed(Machine(0, [(1, 0)], []), [0, 0]), False)

    def test_the_check_of_what_came_is_the_same(self):
        chance = draw(94)
        for told in drawn_tables(95, 30, most=(3, 4, 1)):
            wrong, handed = [drawn_rows(chance, told[0], 5) for _ in range(2)]
            came = [one ^ other for one, other in zip(wrong, handed)]
            alike = walk(told, came)[1] == walk(told, handed)[1]
            self.assertEqual(missed(machine=Machine(*told), rows=wrong), any(wrong) and alike)

    def test_what_is_no_list_of_input_rows(self):
        machine = Machine(2, [(1, 1)], [])
        for thing in THINGS + [0, 1, (1, 2), "01", [4], [[0]], [1, None], [1] * 21, [0] * 21]:
            with self.subTest(thing=thing):
                self.refused(missed, machine, thing)
        for thing in THINGS:
            for place in range(3):
                rows = [1, 2]
                rows.insert(place, thing)
                with self.subTest(thing=thing, place=place):
                    self.refused(missed, machine, rows)

    def test_lists_that_were_handed_in_stay(self):
        rows = [1, 0, 2]
        missed(Machine(2, [(1, 1)], []), rows)
        self.assertEqual(rows, [1, 0, 2])
        self.assertIs(missed(Machine(1, [(0, 1)], []), [1] * 19 + [0]), True)


class ShareTest(Asking):
    def test_all_rows_walked(self):
        for told in drawn_tables(96, 60, most=(3, 4, 1), shares=(2, 4)):
            for turns in range(4):
                every = list(itertools.product(range(2 ** told[0]), repeat=turns))
                wrong = [rows for rows in every if any(rows)]
                missed_ones = [list(rows) for rows in wrong if walk(told, rows)[1] == 0]
                share = missed_share(Machine(*told), turns)
                self.assertEqual([type(share)] + [type(part) for part in share], [tuple, int, int])
                self.assertEqual(share, (len(missed_ones), len(wrong)))
                self.base_holds(told, turns)
                base = [as_mask(rows, told[0]) for rows in missed_base(Machine(*told), turns)]
                sums = sorted(all_sums(base))
                self.assertEqual(sums, sorted([0] + [as_mask(rows, told[0]) for rows in missed_ones]))

    def base_holds(self, told, turns):
        base = missed_base(Machine(*told), turns)
        self.assertIs(type(base), list)
        for rows in base:
            self.assertIs(type(rows), list)
            self.assertEqual(len(rows), turns)
            for row in rows:
                self.assertIs(type(row), int)
                self.assertTrue(0 <= row < 2 ** told[0])
            self.assertEqual(walk(told, rows)[1], 0)
        self.assertTrue(are_free([as_mask(rows, told[0]) for rows in base]))
        self.assertEqual(len(base), turns * told[0] - rank_of(check_columns(told, turns)))
        self.assertEqual(len({id(rows) for rows in base}), len(base))
        return len(base)

    def test_at_the_bounds(self):
        for share in (2, 8, 30):
            told = drawn_table(draw(share), 6, 16, 6, share)
            count = self.base_holds(told, 20)
            self.assertEqual(missed_share(Machine(*told), 20), (2 ** count - 1, 2 ** 120 - 1))
        self.assertEqual(missed_share(Machine(6, [], []), 20), (2 ** 120 - 1, 2 ** 120 - 1))

    def test_no_turns_no_inputs(self):
        self.assertEqual(missed_share(Machine(2, [(1, 1)], []), 0), (0, 0))
        self.assertEqual(missed_base(Machine(2, [(1, 1)], []), 0), [])
        self.assertEqual(missed_share(Machine(0, [(1, 0)], []), 20), (0, 0))
        self.assertEqual(missed_base(machine=Machine(0, [(1, 0)], []), turns=20), [])

    def test_none_missed(self):
        self.assertEqual(missed_share(machine=Machine(1, [(0, 1), (1, 0)], []), turns=2), (0, 3))
        self.assertEqual(missed_base(Machine(1, [(0, 1), (1, 0)], []), 2), [])
        self.assertEqual(missed_base(Machine(1, [(0, 1), (1, 0)], []), 3), [[1, 0, 0]])

    def test_told_lists_are_new(self):
        machine = Machine(2, [(1, 1)], [])
        before = repr(missed_base(machine, 2))
        told = missed_base(machine, 2)
        told[0].append(9)
        told.pop()
        self.assertEqual(repr(missed_base(machine, 2)), before)
        check_masks(machine, 2).append(9)
        self.assertEqual(len(check_masks(machine, 2)), 1)


if __name__ == "__main__":
    unittest.main()
