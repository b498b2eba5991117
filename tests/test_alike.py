"""Points 73 to 75, with 4, and the interface of sumwires.alike."""

import itertools
import unittest

from reckon import at, draw, drawn_rows, drawn_table, drawn_tables, rising, turn, walk
from sumwires.alike import compared
from sumwires.errors import BadSizes, WireError
from sumwires.least import least
from sumwires.machines import Machine


def reordered(told, order):
    """The same machine with its store order[k] in the place of store k."""
    def mask(one):
        return sum(1 << place for place, store in enumerate(order) if one >> store & 1)

    nexts = [(mask(told[1][store][0]), told[1][store][1]) for store in order]
    return told[0], nexts, [(mask(one), other) for one, other in told[2]]


def with_a_twin(told, store):
    """One more store that holds what this one does, asked for by the first out that asks for this one."""
    width = len(told[1])
    nexts, outs = told[1] + [told[1][store]], list(told[2])
    for place, (one, other) in enumerate(outs):
        if one >> store & 1:
            outs[place] = (one ^ 1 << store ^ 1 << width, other)
            break
    return told[0], nexts, outs


def with_a_bit_turned(told, chance):
    inputs, nexts, outs = told[0], list(told[1]), list(told[2])
    pairs = chance.choice([one for one in (nexts, outs) if one])
    place = chance.randrange(len(pairs))
    one, other = pairs[place]
    bit = chance.randrange(len(nexts) + inputs)
    pairs[place] = (one ^ 1 << bit, other) if bit < len(nexts) else (one, other ^ 1 << bit - len(nexts))
    return inputs, nexts, outs


def lists_within(thing):
    if isinstance(thing, (list, tuple)):
        inner = [one for part in thing for one in lists_within(part)]
        return inner + [thing] if isinstance(thing, list) else inner
    return []


class Papers(unittest.TestCase):
    def holds(self, one, other):
        machines = Machine(*one), Machine(*other)
        paper = compared(*machines)
        self.assertEqual((machines[0].told(), machines[1].told()), (one, other))
        self.assertIs(type(paper), tuple)
        if paper[0] == "apart":
            self.apart_holds(one, other, paper)
        else:
            self.alike_holds(one, other, paper)
        return paper[0]

    def alike_holds(self, one, other, paper):
        self.assertEqual((paper[0], len(paper)), ("alike", 4))
        pairs, begins, sums = paper[1:]
        self.assertEqual([type(part) for part in paper[1:]], [list, list, list])
        self.assertEqual((len(begins), len(sums)), (one[0], len(pairs)))
        for pair in pairs:
            self.assertEqual([type(pair)] + [type(state) for state in pair], [tuple, int, int])
            self.assertTrue(0 <= pair[0] < 2 ** len(one[1]) and 0 <= pair[1] < 2 ** len(other[1]))
        firsts, seconds = [pair[0] for pair in pairs], [pair[1] for pair in pairs]
        for which, places in enumerate(begins):
            self.come_to(turn(one, 0, 1 << which), turn(other, 0, 1 << which), firsts, seconds, places)
        for pair, places in zip(pairs, sums):
            self.come_to(turn(one, pair[0], 0), turn(other, pair[1], 0), firsts, seconds, places)
        found = [id(one_list) for one_list in lists_within(paper)]
        self.assertEqual(len(found), len(set(found)))

    def come_to(self, first, second, firsts, seconds, places):
        self.assertTrue(rising(places))
        self.assertEqual(first[0], second[0])
        self.assertEqual((first[1], second[1]), (at(firsts, places), at(seconds, places)))

    def apart_holds(self, one, other, paper):
        self.assertEqual((len(paper), type(paper[1]), type(paper[2])), (3, int, int))
        which, turns = paper[1:]
        self.assertTrue(0 <= which < one[0] and turns >= 0)
        rows = [1 << which] + [0] * turns
        first, second = walk(one, rows)[0], walk(other, rows)[0]
        self.assertEqual(first[:turns], second[:turns])
        self.assertNotEqual(first[turns], second[turns])
        for single in range(one[0]):
            rows = ([1 << single] + [0] * turns)[:turns]
            self.assertEqual(walk(one, rows)[0], walk(other, rows)[0])


class ComparedTest(Papers):
    def test_with_itself(self):
        for told in drawn_tables(41, 60, shares=(2, 4, 8)):
            self.assertEqual(self.holds(told, told), "alike")
            machine = Machine(*told)
            self.assertEqual(compared(machine, machine)[0], "alike")

    def test_with_its_least_one(self):
        for told in drawn_tables(42, 60, shares=(2, 4, 8)):
            other = least(Machine(*told))[0].told()
            self.assertEqual(self.holds(told, other), "alike")
            self.assertEqual(self.holds(other, told), "alike")

    def test_with_its_stores_in_another_order(self):
        for seed, told in enumerate(drawn_tables(43, 60, shares=(2, 4, 8))):
            order = list(range(len(told[1])))
            draw(seed).shuffle(order)
            self.assertEqual(self.holds(told, reordered(told, order)), "alike")

    def test_with_a_twin_of_a_store(self):
        for seed, told in enumerate(drawn_tables(44, 60, most=(6, 15, 6), shares=(2, 4, 8))):
            if told[1]:
                store = draw(seed).randrange(len(told[1]))
                self.assertEqual(self.holds(told, with_a_twin(told, store)), "alike")

    def test_one_bit_of_a_table_turned(self):
        seen = []
        for seed, told in enumerate(drawn_tables(45, 150, shares=(2, 4, 8))):
            if told[2] and told[0]:
                seen.append(self.holds(told, with_a_bit_turned(told, draw(seed))))
        self.assertGreater(min(seen.count("alike"), seen.count("apart")), 10)

    def test_drawn_pairs(self):
        chance = draw(46)
        for _ in range(60):
            inputs, outs = chance.randrange(7), chance.randrange(7)
            one, other = [drawn_table(chance, inputs, chance.randrange(17), outs, 6) for _ in range(2)]
            self.holds(one, other)

    def test_the_shortest_row_by_trying_all(self):
        seen = []
        chance = draw(47)
        for _ in range(80):
            one = drawn_table(chance, 1 + chance.randrange(2), chance.randrange(4), 1, 3)
            other = with_a_bit_turned(one, chance)
            paper = compared(Machine(*one), Machine(*other))
            longest = 5 if one[0] == 1 else 4
            unlike = None
            for count in range(1, longest + 1):
                for rows in itertools.product(range(2 ** one[0]), repeat=count):
                    if unlike is None and walk(one, rows)[0] != walk(other, rows)[0]:
                        unlike = count
            if unlike is not None:
                self.assertEqual((paper[0], paper[2] + 1), ("apart", unlike))
            else:
                self.assertTrue(paper[0] == "alike" or paper[2] >= longest)
            seen.append(unlike)
        self.assertGreater(len(set(seen)), 3)

    def test_answers_alike_to_drawn_rows(self):
        for seed, told in enumerate(drawn_tables(48, 30)):
            other = least(Machine(*told))[0].told()
            rows = drawn_rows(draw(seed), told[0], 30)
            self.assertEqual(compared(Machine(*told), Machine(*other))[0], "alike")
            self.assertEqual(walk(told, rows)[0], walk(other, rows)[0])

    def test_a_late_turn(self):
        def chain(stores):
            return 1, [(0, 1)] + [(1 << store, 0) for store in range(stores - 1)], [(1 << stores - 1, 0)]

        self.assertEqual(compared(Machine(*chain(16)), Machine(1, [], [(0, 0)])), ("apart", 0, 16))
        self.assertEqual(compared(Machine(1, [], [(0, 0)]), Machine(*chain(16))), ("apart", 0, 16))
        self.assertEqual(compared(Machine(*chain(15)), Machine(*chain(16))), ("apart", 0, 15))

    def test_as_late_as_both_machines_let(self):
        # A ring of one store and one of so many: unlike at the last turn that can be.
        def ring(stores):
            nexts = [(1 << stores - 1, 1)] + [(1 << store, 0) for store in range(stores - 1)]
            return 1, nexts, [(1 << stores - 1, 0)]

        for one, other in ((3, 5), (7, 9), (15, 16)):
            self.assertEqual(self.holds(ring(one), ring(other)), "apart")
        late = (1, [(0, 1)] + [(1 << store, 0) for store in range(4)], [(0b10000, 0)])
        ringed = (1, [(0b10000, 1)] + [(1 << store, 0) for store in range(4)], [(0b10000, 0)])
        self.assertEqual(compared(Machine(*late), Machine(*ringed)), ("apart", 0, 10))

    def test_no_stores_no_inputs_no_outs(self):
        self.assertEqual(compared(Machine(0, [], []), Machine(0, [], [])), ("alike", [], [], []))
        self.assertEqual(compared(Machine(2, [], [(0, 1)]), Machine(2, [], [(0, 1)])), ("alike", [], [[], []], []))
        self.assertEqual(compared(one=Machine(2, [], [(0, 1)]), other=Machine(2, [], [(0, 3)])), ("apart", 1, 0))
        self.assertEqual(self.holds((2, [(3, 1), (1, 2)], []), (2, [(1, 3)], [])), "alike")
        self.assertEqual(self.holds((0, [(3, 0), (1, 0)], [(1, 0)]), (0, [(1, 0)], [(0, 0)])), "alike")

    def test_lists_are_the_askers_own(self):
        machine = Machine(*drawn_table(draw(49), 2, 5, 2))
        before = repr(compared(machine, machine))
        told = compared(machine, machine)
        for one in lists_within(told):
            one.append(99)
        self.assertEqual(repr(compared(machine, machine)), before)


class SizesTest(unittest.TestCase):
    def test_just_where_they_are_not_as_many(self):
        for sizes in itertools.product((0, 1, 2), repeat=4):
            one = Machine(sizes[0], [(0, 0)], [(0, 0)] * sizes[1])
            other = Machine(sizes[2], [], [(0, 0)] * sizes[3])
            if sizes[:2] == sizes[2:]:
                self.assertEqual(compared(one, other)[0], "alike")
            else:
                with self.assertRaises(WireError) as caught:
                    compared(one, other)
                self.assertIs(type(caught.exception), BadSizes)


if __name__ == "__main__":
    unittest.main()
