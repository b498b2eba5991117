"""Points 31 to 34, with 4 and 5, and the interface of sumwires.runs."""

import unittest

from reckon import LISTS, THINGS, draw, drawn_lists, drawn_rows, net_walk
from sumwires.errors import BadMask, BadRow, NoWire, WireError
from sumwires.nets import Net
from sumwires.runs import Run, answers_of


def some_net():
    return Net(["a", "b"], [("n", ["a", "s"]), ("m", ["n", "b", "n"])], [("s", "n"), ("t", "s")], ["n", "t", "m"])


class StepTest(unittest.TestCase):
    def test_turn_by_turn(self):
        run = Run(some_net())
        self.assertEqual(run.state(), 0)
        self.assertEqual(run.answered(), [])
        self.assertEqual(run.step(1), 0b001)
        self.assertEqual(run.state(), 0b01)
        self.assertEqual(run.step(2), 0b101)
        self.assertEqual(run.state(), 0b11)
        self.assertEqual(run.step(3), 0b110)
        self.assertEqual(run.state(), 0b10)
        self.assertEqual(run.answered(), [0b001, 0b101, 0b110])

    def test_a_wire_that_stands_twice_in_a_sum(self):
        for times in range(5):
            run = Run(Net(["a"], [("n", ["a"] * times)], [], ["n"]))
            self.assertEqual([run.step(0), run.step(1)], [0, times % 2])

    def test_a_sum_of_no_wires(self):
        self.assertEqual(answers_of(Net(["a"], [("n", [])], [], ["n", "a"]), [0, 1]), [0, 2])

    def test_stores_that_take_from_stores_take_all_at_once(self):
        chain = Net(["a"], [], [("r", "a"), ("s", "r"), ("t", "s")], ["t", "s", "r", "a"])
        self.assertEqual(answers_of(chain, [1, 0, 0, 0, 0]), [8, 4, 2, 1, 0])
        other = Net(["a"], [], [("t", "s"), ("s", "r"), ("r", "a")], ["t", "s", "r", "a"])
        self.assertEqual(answers_of(other, [1, 0, 0, 0, 0]), [8, 4, 2, 1, 0])

    def test_stores_that_change_places(self):
        run = Run(Net(["a"], [("n", ["a", "t"])], [("s", "n"), ("t", "s")], ["s", "t"]))
        self.assertEqual([run.step(row) for row in (1, 0, 0, 0)], [0, 1, 2, 1])

    def test_a_store_that_takes_from_itself(self):
        run = Run(Net(["a"], [("n", ["a", "t"])], [("s", "s"), ("t", "n")], ["s", "t"]))
        self.assertEqual([run.step(row) for row in (1, 0, 0, 1, 0)], [0, 2, 2, 2, 0])
        self.assertEqual(run.state(), 0)

    def test_an_out_that_is_told_twice(self):
        self.assertEqual(answers_of(Net(["a"], [], [], ["a", "a", "a"]), [0, 1]), [0, 7])

    def test_without_inputs_stores_outs(self):
        self.assertEqual(answers_of(Net([], [("n", [])], [("s", "n")], ["s", "n"]), [0, 0]), [0, 0])
        self.assertEqual(answers_of(Net(["a"], [], [], ["a"]), [1, 0, 1]), [1, 0, 1])
        run = Run(Net(["a"], [], [("s", "a")], []))
        self.assertEqual(run.step(1), 0)
        self.assertEqual((run.state(), run.answered(), run.wire_now("a"), run.wire_now("s")), (1, [0], 1, 0))
        empty = Run(Net([], [], [], []))
        self.assertEqual((empty.step(0), empty.state(), empty.answered()), (0, 0, [0]))

    def test_drawn_nets(self):
        for seed in range(80):
            chance = draw(seed)
            lists = drawn_lists(chance)
            rows = drawn_rows(chance, len(lists[0]), 12)
            answers, states, bits = net_walk(lists, rows)
            run = Run(Net(*lists))
            for turn, row in enumerate(rows):
                self.assertEqual(run.step(row), answers[turn])
                self.assertEqual(run.state(), states[turn])
                self.assertEqual({name: run.wire_now(name) for name in bits[turn]}, bits[turn])
            self.assertEqual(run.answered(), answers)
            self.assertEqual(answers_of(Net(*lists), rows), answers)

    def test_sums_in_any_order_have_the_same_bits(self):
        for seed in range(20):
            chance = draw(seed)
            ins, sums, stores, outs = drawn_lists(chance)
            rows = drawn_rows(chance, len(ins), 10)
            first = answers_of(Net(ins, sums, stores, outs), rows)
            for _ in range(3):
                chance.shuffle(sums)
                self.assertEqual(answers_of(Net(ins, sums, stores, outs), rows), first)

    def test_forty_sums_each_with_the_two_ahead_of_it(self):
        names = ["n%d" % number for number in range(40)]
        sums = [(name, names[max(place - 2, 0):place] or ["a"]) for place, name in enumerate(names)]
        net = Net(["a"], sums[::-1], [], ["n37", "n38", "n39"])
        self.assertEqual(answers_of(net, [1, 0]), net_walk(net.told(), [1, 0])[0])

    def test_every_number_is_a_whole_one(self):
        run = Run(some_net())
        for told in (run.state(), run.step(3), run.wire_now("a"), run.wire_now("n"), run.wire_now("s"), run.state()):
            self.assertIs(type(told), int)


class NoInputRowTest(unittest.TestCase):
    def test_no_turn_is_done(self):
        for thing in THINGS + LISTS + [4, 5, 2 ** 80]:
            run = Run(some_net())
            run.step(1)
            before = run.state(), run.answered(), [run.wire_now(name) for name in ("a", "b", "n", "m", "s", "t")]
            with self.subTest(thing=thing), self.assertRaises(WireError) as caught:
                run.step(thing)
            self.assertIs(type(caught.exception), BadMask)
            now = run.state(), run.answered(), [run.wire_now(name) for name in ("a", "b", "n", "m", "s", "t")]
            self.assertEqual(now, before)

    def test_ahead_of_the_first_turn(self):
        run = Run(some_net())
        with self.assertRaises(BadMask):
            run.step(4)
        with self.assertRaises(BadRow):
            run.wire_now("a")
        self.assertEqual((run.state(), run.answered()), (0, []))

    def test_without_inputs_just_0_is_one(self):
        run = Run(Net([], [], [], []))
        self.assertEqual(run.step(0), 0)
        for thing in (1, True, False, None):
            with self.assertRaises(BadMask):
                run.step(thing)

    def test_the_greatest_one(self):
        run = Run(Net(["a", "b", "c", "d", "e", "f"], [], [], ["f", "a"]))
        self.assertEqual(run.step(63), 3)
        with self.assertRaises(BadMask):
            run.step(64)

    def test_among_rows(self):
        for place in range(3):
            for thing in THINGS + LISTS + [4]:
                rows = [1, 2]
                rows.insert(place, thing)
                with self.assertRaises(BadMask):
                    answers_of(some_net(), rows)


class ToldTest(unittest.TestCase):
    def test_no_wire_goes_ahead_of_no_turn(self):
        run = Run(some_net())
        for thing in THINGS + LISTS + ["c", "zz"]:
            with self.subTest(thing=thing), self.assertRaises(WireError) as caught:
                run.wire_now(thing)
            self.assertIs(type(caught.exception), NoWire)
            self.assertEqual(caught.exception.name, thing)
        for name in ("a", "n", "s"):
            with self.assertRaises(WireError) as caught:
                run.wire_now(name)
            self.assertIs(type(caught.exception), BadRow)
        run.step(1)
        self.assertEqual(run.wire_now("a"), 1)
        with self.assertRaises(NoWire):
            run.wire_now("c")

    def test_a_wire_at_the_last_turn(self):
        run = Run(some_net())
        run.step(1)
        self.assertEqual([run.wire_now(name) for name in ("a", "b", "n", "m", "s", "t")], [1, 0, 1, 0, 0, 0])
        run.step(2)
        self.assertEqual([run.wire_now(name) for name in ("a", "b", "n", "m", "s", "t")], [0, 1, 1, 1, 1, 0])

    def test_told_answers_may_be_changed(self):
        run = Run(some_net())
        run.step(1)
        run.answered().append(9)
        run.answered()[0] = 9
        self.assertEqual(run.answered(), [1])
        told = run.answered()
        run.step(1)
        self.assertEqual(told, [1])

    def test_questions_change_nothing(self):
        run = Run(some_net())
        run.step(1)
        for _ in range(3):
            self.assertEqual((run.state(), run.wire_now("n"), run.answered()), (1, 1, [1]))

    def test_two_runs_of_one_net_beside_one_another(self):
        net = some_net()
        one, other = Run(net), Run(net)
        one.step(1)
        self.assertEqual((other.state(), other.answered()), (0, []))
        with self.assertRaises(BadRow):
            other.wire_now("a")
        other.step(2)
        one.step(1)
        other.step(0)
        self.assertEqual(one.answered(), net_walk(net.told(), [1, 1])[0])
        self.assertEqual(other.answered(), net_walk(net.told(), [2, 0])[0])
        self.assertEqual(net.told(), some_net().told())


class AnswersTest(unittest.TestCase):
    def test_no_rows(self):
        self.assertEqual(answers_of(some_net(), []), [])

    def test_of_a_new_run_each_time(self):
        net = some_net()
        rows = [1, 2, 3]
        for _ in range(2):
            self.assertEqual(answers_of(net, rows), net_walk(net.told(), rows)[0])
        self.assertEqual(rows, [1, 2, 3])

    def test_three_hundred_rows(self):
        rows = drawn_rows(draw(1), 2, 300)
        self.assertEqual(answers_of(net=some_net(), rows=rows), net_walk(some_net().told(), rows)[0])

    def test_answers_add_up(self):
        for seed in range(30):
            chance = draw(seed)
            lists = drawn_lists(chance)
            net = Net(*lists)
            one, other = [drawn_rows(chance, len(lists[0]), 15) for _ in range(2)]
            both = [first ^ second for first, second in zip(one, other)]
            added = [first ^ second for first, second in zip(answers_of(net, one), answers_of(net, other))]
            self.assertEqual(answers_of(net, both), added)
            self.assertEqual(answers_of(net, [0] * 15), [0] * 15)


if __name__ == "__main__":
    unittest.main()
