"""Points 61 to 65, with 4 and 5, and the interface of sumwires.states."""

import unittest

from reckon import (
    LISTS, THINGS, all_sums, are_free, at, draw, drawn_rows, drawn_table, drawn_tables, parity, rising, taken_back,
    total, turn, walk,
)
from sumwires.errors import BadMask, BadRow, WireError
from sumwires.machines import Machine
from sumwires.states import brought, come_to, fits, told_apart


def small_tables(seed, count):
    return drawn_tables(seed, count, most=(3, 6, 3), shares=(2, 3, 4, 6))


def great_tables(seed, count):
    chance = draw(seed)
    for _ in range(count):
        yield drawn_table(chance, chance.randrange(1, 3), 16, chance.randrange(1, 3), share=chance.choice([2, 8, 14]))


def shift(stores):
    """A chain of stores: what is handed in goes through all of them, one a turn."""
    return 1, [(0, 1)] + [(1 << store, 0) for store in range(stores - 1)], [(1 << stores - 1, 0)]


class Asking(unittest.TestCase):
    def refused(self, error, call, *things):
        with self.assertRaises(WireError) as caught:
            call(*things)
        self.assertIs(type(caught.exception), error)

    def is_state(self, told, mask):
        self.assertIs(type(mask), int)
        self.assertTrue(0 <= mask < 2 ** len(told[1]))

    def are_rows(self, told, rows):
        self.assertIs(type(rows), list)
        for row in rows:
            self.assertIs(type(row), int)
            self.assertTrue(0 <= row < 2 ** told[0])

    def has_no_input_parts(self, told, mask, times):
        self.is_state(told, mask)
        for _ in range(times):
            mask, inputs = taken_back(told, mask)
            self.assertEqual(inputs, 0)


class ComeTest(Asking):
    def holds(self, told, state):
        paper = come_to(Machine(*told), state)
        self.assertIs(type(paper), tuple)
        self.assertEqual(len(paper), 3)
        if paper[0] == "come":
            rows, mask = paper[1:]
            self.are_rows(told, rows)
            self.assertLessEqual(len(rows), len(told[1]))
            self.assertEqual(walk(told, rows)[1], state)
            if not rows:
                self.assertEqual((mask, state), (0, 0))
            else:
                self.assertEqual(parity(mask & state), 1)
                self.has_no_input_parts(told, mask, len(rows) - 1)
            return len(rows)
        self.assertEqual(paper[0], "never")
        masks, sums = paper[1:]
        self.assertEqual([type(masks), type(sums), len(sums)], [list, list, len(masks)])
        self.assertEqual(parity(masks[0] & state), 1)
        for mask, places in zip(masks, sums):
            self.is_state(told, mask)
            self.assertTrue(rising(places))
            self.assertEqual(taken_back(told, mask), (at(masks, places), 0))
        return None

    def test_all_states_of_small_machines(self):
        seen = {True: 0, False: 0}
        for told in small_tables(21, 80):
            fewest = {0: 0}
            newest = [0]
            while newest:
                after = {turn(told, state, row)[1]: fewest[state] + 1 for state in newest for row in range(2 ** told[0])}
                newest = [state for state in after if state not in fewest]
                fewest.update({state: after[state] for state in newest})
            for state in range(2 ** len(told[1])):
                self.assertEqual(self.holds(told, state), fewest.get(state))
                seen[state in fewest] += 1
        self.assertGreater(min(seen.values()), 200)

    def test_sixteen_stores(self):
        for seed, told in enumerate(great_tables(22, 25)):
            chance = draw(seed)
            for state in [0, 1, 2 ** 16 - 1] + [chance.randrange(2 ** 16) for _ in range(4)]:
                self.holds(told, state)
            rows = drawn_rows(chance, told[0], 20)
            self.assertIsNotNone(self.holds(told, walk(told, rows)[1]))

    def test_a_chain_of_sixteen(self):
        told = shift(16)
        self.assertEqual(self.holds(told, 2 ** 15), 16)
        self.assertEqual(self.holds(told, 1), 1)
        self.assertEqual(self.holds(told, 2 ** 16 - 1), 16)

    def test_no_stores_no_inputs_no_outs(self):
        self.assertEqual(come_to(Machine(2, [], [(0, 1)]), 0), ("come", [], 0))
        self.assertEqual(come_to(Machine(0, [], []), 0), ("come", [], 0))
        told = (0, [(2, 0), (3, 0)], [])
        self.assertEqual(come_to(Machine(*told), 0), ("come", [], 0))
        for state in (1, 2, 3):
            self.assertIsNone(self.holds(told, state))
        self.assertIsNone(self.holds((1, [(0, 1), (0, 0)], []), 2))
        self.assertIsNone(self.holds((1, [(0, 1), (0, 1)], []), 1))

    def test_what_is_no_state(self):
        machine = Machine(1, [(0, 1), (1, 0)], [])
        for thing in THINGS + LISTS + [4, 2 ** 80]:
            with self.subTest(thing=thing):
                self.refused(BadMask, come_to, machine, thing)
        self.refused(BadMask, come_to, Machine(1, [], []), 1)

    def test_told_lists_are_new(self):
        machine = Machine(*shift(3))
        come_to(machine, 4)[1].append(5)
        self.assertEqual(come_to(machine=machine, state=4), ("come", [1, 0, 0], come_to(machine, 4)[2]))
        other = Machine(0, [(1, 0)], [])
        told = come_to(other, 1)
        told[1].append(5)
        told[2][0].append(5)
        self.assertEqual(come_to(other, 1), ("never", [1], [[0]]))


class ApartTest(Asking):
    def holds(self, told, one, other, rows):
        paper = told_apart(Machine(*told), one, other)
        self.assertIs(type(paper), tuple)
        self.assertEqual(len(paper), 3)
        answers = list(zip(walk(told, rows, one)[0], walk(told, rows, other)[0]))
        unlike = [place for place, (first, second) in enumerate(answers) if first != second]
        if paper[0] == "apart":
            self.assertEqual([type(part) for part in paper[1:]], [int, int])
            self.assertLess(paper[1], len(told[1]))
            self.assertEqual(unlike[0], paper[1])
            first, second = answers[paper[1]]
            self.assertTrue(0 <= paper[2] < len(told[2]))
            self.assertNotEqual(first >> paper[2] & 1, second >> paper[2] & 1)
            return True
        self.assertEqual(paper[0], "alike")
        self.assertEqual(unlike, [])
        states, sums = paper[1:]
        self.assertEqual([type(states), type(sums), len(sums)], [list, list, len(states)])
        if one == other:
            self.assertEqual((states, sums), ([], []))
        else:
            self.assertEqual(states[0], one ^ other)
        for state, places in zip(states, sums):
            self.is_state(told, state)
            self.assertTrue(rising(places))
            self.assertEqual(turn(told, state, 0), (0, at(states, places)))
        return False

    def test_all_pairs_of_small_machines(self):
        seen = [0, 0]
        for seed, told in enumerate(drawn_tables(23, 60, most=(2, 4, 2), shares=(2, 3, 5))):
            rows = drawn_rows(draw(seed), told[0], 8)
            for one in range(2 ** len(told[1])):
                for other in range(2 ** len(told[1])):
                    seen[self.holds(told, one, other, rows)] += one != other
        self.assertGreater(min(seen), 300)

    def test_sixteen_stores(self):
        for seed, told in enumerate(great_tables(24, 25)):
            chance = draw(seed)
            rows = drawn_rows(chance, told[0], 20)
            for _ in range(6):
                self.holds(told, chance.randrange(2 ** 16), chance.randrange(2 ** 16), rows)
            self.holds(told, 0, 1 << chance.randrange(16), rows)

    def test_a_chain_of_sixteen(self):
        self.assertEqual(told_apart(Machine(*shift(16)), 1, 0), ("apart", 15, 0))
        self.assertEqual(told_apart(Machine(*shift(16)), 2 ** 15, 0), ("apart", 0, 0))

    def test_no_stores_no_inputs_no_outs(self):
        self.assertEqual(told_apart(Machine(2, [], [(0, 1)]), 0, 0), ("alike", [], []))
        self.assertFalse(self.holds((2, [(3, 0), (1, 1)], []), 1, 2, [0, 1, 2, 3]))
        self.assertTrue(self.holds((0, [(1, 0)], [(1, 0)]), 1, 0, [0, 0]))
        self.assertFalse(self.holds((0, [(2, 0), (0, 0), (1, 0)], [(0, 0)]), 5, 0, [0, 0]))

    def test_what_is_no_state(self):
        machine = Machine(1, [(0, 1), (1, 0)], [(1, 0)])
        for thing in THINGS + LISTS + [4]:
            with self.subTest(thing=thing):
                self.refused(BadMask, told_apart, machine, thing, 0)
                self.refused(BadMask, told_apart, machine, 0, thing)
                self.refused(BadMask, told_apart, machine, thing, thing)

    def test_told_lists_are_new(self):
        machine = Machine(0, [(1, 0)], [])
        told = told_apart(machine, 1, 0)
        told[1].append(5)
        told[2][0].append(5)
        self.assertEqual(told_apart(machine=machine, one=1, other=0), ("alike", [1], [[0]]))
        told_apart(machine, 0, 0)[1].append(3)
        self.assertEqual(told_apart(machine, 0, 0), ("alike", [], []))


class BroughtTest(Asking):
    def holds(self, told, start, wish, turns):
        paper = brought(Machine(*told), start, wish, turns)
        self.assertIs(type(paper), tuple)
        self.assertEqual(len(paper), 2)
        if paper[0] == "rows":
            self.are_rows(told, paper[1])
            self.assertEqual(len(paper[1]), turns)
            self.assertEqual(walk(told, paper[1], start)[1], wish)
            return True
        self.assertEqual(paper[0], "no")
        self.has_no_input_parts(told, paper[1], turns)
        self.assertEqual(parity(paper[1] & (wish ^ walk(told, [0] * turns, start)[1])), 1)
        return False

    def test_small_machines(self):
        seen = [0, 0]
        for seed, told in enumerate(drawn_tables(25, 40, most=(2, 4, 1), shares=(2, 3, 5))):
            states = range(2 ** len(told[1]))
            start = draw(seed).choice(states)
            now = {start}
            for turns in range(6):
                for wish in states:
                    self.assertEqual(self.holds(told, start, wish, turns), wish in now)
                    seen[wish in now] += 1
                now = {turn(told, state, row)[1] for state in now for row in range(2 ** told[0])}
        self.assertGreater(min(seen), 300)

    def test_sixteen_stores(self):
        for seed, told in enumerate(great_tables(26, 15)):
            chance = draw(seed)
            for turns in (0, 1, 5, 16, 40):
                self.holds(told, chance.randrange(2 ** 16), chance.randrange(2 ** 16), turns)
                start, rows = chance.randrange(2 ** 16), drawn_rows(chance, told[0], turns)
                self.assertTrue(self.holds(told, start, walk(told, rows, start)[1], turns))

    def test_no_turns(self):
        machine = Machine(1, [(0, 1), (1, 0)], [])
        self.assertEqual(brought(machine, 2, 2, 0), ("rows", []))
        self.assertEqual(brought(machine=machine, start=2, wish=1, turns=0)[0], "no")

    def test_no_stores_no_inputs(self):
        self.assertEqual(brought(Machine(2, [], []), 0, 0, 3), ("rows", [0, 0, 0]))
        self.assertEqual(brought(Machine(0, [(2, 0), (1, 0)], []), 1, 2, 3), ("rows", [0, 0, 0]))
        self.assertFalse(self.holds((0, [(2, 0), (1, 0)], []), 1, 2, 4))
        self.assertEqual(brought(Machine(0, [], []), 0, 0, 40), ("rows", [0] * 40))

    def test_refused(self):
        machine = Machine(1, [(0, 1), (1, 0)], [])
        for thing in THINGS + LISTS + [4]:
            with self.subTest(thing=thing):
                self.refused(BadMask, brought, machine, thing, 0, 3)
                self.refused(BadMask, brought, machine, 0, thing, 3)
                self.refused(BadMask, brought, machine, thing, 0, 41)
                self.refused(BadMask, brought, machine, 0, thing, None)
        for thing in THINGS + LISTS + [41, 2 ** 70]:
            with self.subTest(thing=thing):
                self.refused(BadRow, brought, machine, 1, 2, thing)


class FitsTest(Asking):
    def holds(self, told, rows, answers):
        kept = list(rows), list(answers)
        paper = fits(Machine(*told), rows, answers)
        self.assertEqual((rows, answers), kept)
        self.assertIs(type(paper), tuple)
        if paper[0] == "fit":
            state, others = paper[1:]
            self.assertIs(type(others), list)
            for mask in [state] + others:
                self.is_state(told, mask)
            self.assertEqual(walk(told, rows, state)[0], answers)
            self.assertTrue(are_free(others))
            for other in others:
                self.assertEqual(walk(told, rows, state ^ other)[0], answers)
            return [state ^ one for one in all_sums(others)] if len(others) < 9 else None
        self.assertEqual((paper[0], len(paper)), ("unfit", 2))
        looks = paper[1]
        self.assertIs(type(looks), list)
        self.assertEqual(len(looks), len(set(looks)))
        for look in looks:
            self.assertEqual([type(look)] + [type(part) for part in look], [tuple, int, int])
            self.assertTrue(0 <= look[0] < len(rows) and 0 <= look[1] < len(told[2]))
        heard = total([answers[turn_at] >> out & 1 for turn_at, out in looks])
        for start in [0] + [1 << store for store in range(len(told[1]))]:
            given = walk(told, rows, start)[0]
            self.assertEqual(total([given[turn_at] >> out & 1 for turn_at, out in looks]), 1 - heard)
        return []

    def test_small_machines(self):
        seen = [0, 0]
        for seed, told in enumerate(small_tables(27, 150)):
            chance = draw(seed)
            rows = drawn_rows(chance, told[0], chance.randrange(7))
            answers = walk(told, rows, chance.randrange(2 ** len(told[1])))[0]
            if answers and told[2] and chance.randrange(2):
                answers[chance.randrange(len(answers))] ^= 1 << chance.randrange(len(told[2]))
            right = [state for state in range(2 ** len(told[1])) if walk(told, rows, state)[0] == answers]
            self.assertEqual(sorted(self.holds(told, rows, answers)), right)
            seen[bool(right)] += 1
        self.assertGreater(min(seen), 20)

    def test_sixteen_stores_forty_rows(self):
        for seed, told in enumerate(great_tables(28, 20)):
            chance = draw(seed)
            rows = drawn_rows(chance, told[0], 40)
            answers = walk(told, rows, chance.randrange(2 ** 16))[0]
            self.assertNotEqual(self.holds(told, rows, answers), [])
            answers[chance.randrange(40)] ^= 1
            self.holds(told, rows, answers)

    def test_six_outs(self):
        told = drawn_table(draw(5), 2, 16, 6)
        rows = drawn_rows(draw(6), 2, 40)
        answers = walk(told, rows, 0x5a5a)[0]
        self.assertEqual(self.holds(told, rows, answers), [0x5a5a])
        for place, out in ((0, 0), (39, 5), (20, 3)):
            turned = list(answers)
            turned[place] ^= 1 << out
            self.assertEqual(self.holds(told, rows, turned), [])

    def test_no_rows(self):
        self.assertEqual(sorted(self.holds((1, [(0, 1), (1, 0)], [(1, 0)]), [], [])), [0, 1, 2, 3])

    def test_no_stores_no_inputs_no_outs(self):
        self.assertEqual(fits(Machine(1, [], [(0, 1)]), [1, 0], [1, 0]), ("fit", 0, []))
        self.assertEqual(self.holds((1, [], [(0, 1)]), [1, 0], [1, 1]), [])
        self.assertEqual(sorted(self.holds((1, [(1, 1)], []), [1, 0], [0, 0])), [0, 1])
        self.assertEqual(fits(Machine(0, [], []), [0], [0]), ("fit", 0, []))
        self.assertEqual(self.holds((0, [(2, 0), (1, 0)], [(1, 0)]), [0, 0, 0], [1, 0, 1]), [1])
        self.assertEqual(self.holds((0, [(2, 0), (1, 0)], [(1, 0)]), [0, 0, 0], [1, 0, 0]), [])

    def test_refused(self):
        machine = Machine(1, [(0, 1), (1, 0)], [(1, 0), (2, 0)])
        for thing in THINGS + [[thing] for thing in THINGS] + [0, [2], [0, None], [[0]], (0, 1), [0] * 41]:
            with self.subTest(thing=thing):
                self.refused(BadRow, fits, machine, thing, [0])
                self.refused(BadRow, fits, machine, thing, thing)
        for thing in THINGS + [[thing] for thing in THINGS] + [0, [4], [[0]], [], [0, 0], (0,), [0] * 41]:
            with self.subTest(thing=thing):
                self.refused(BadRow, fits, machine, [1], thing)
        self.refused(BadRow, fits, machine, [], [0])
        self.refused(BadRow, fits, machine, [0] * 41, [0] * 41)
        self.refused(BadRow, fits, Machine(1, [], []), [0], [1])

    def test_just_forty(self):
        machine = Machine(1, [(0, 1)], [(1, 0)])
        self.assertEqual(fits(machine=machine, rows=[0] * 40, answers=[1] + [0] * 39), ("fit", 1, []))


if __name__ == "__main__":
    unittest.main()
