"""Points 111 to 115, with 4 and 5, and the interface of sumwires.desk."""

import unittest

from reckon import draw, drawn_lists, drawn_rows, net_walk
from sumwires.back import told_back
from sumwires.checks import missed_share
from sumwires.cuts import cut_shown
from sumwires.desk import Desk
from sumwires.errors import BadLine, BadRow, Doubled, NoWire, Ring, TooMany, WireError
from sumwires.least import least
from sumwires.nets import Net
from sumwires.nettext import read_net, show_net
from sumwires.rings import ring_of
from sumwires.states import brought, come_to, told_apart
from sumwires.tables import hangs_on, net_of, table_of

TEXT = "in a\nin b\nsum n = a s\nsum m = n b n\nsum z =\nstore s = n\nstore t = s\nout n\nout t\nout m"
ASKED = ["state", "text", "ring", "back", "least", "come 01", "apart 01 10", "bring 11 4", "misses 3", "hangs m", "cut s"]


def signs(mask, width):
    return "".join(str(mask >> place & 1) for place in range(width)) or "-"


class Asking(unittest.TestCase):
    def refused(self, error, desk, row):
        before = self.told_by(desk)
        with self.assertRaises(WireError) as caught:
            desk.say(row)
        self.assertIs(type(caught.exception), error, row)
        self.assertEqual(self.told_by(desk), before)
        return caught.exception

    def no_form(self, desk, row):
        self.assertEqual(self.refused(BadLine, desk, row).line, 0)

    def told_by(self, desk):
        """The net, the state, and the bits of the wires at the last turn."""
        text = desk.say("text")
        told = [text, desk.say("state")]
        for name in read_net("" if text == "nothing" else text.replace("; ", "\n")).wire_names():
            try:
                told.append(desk.say("wire " + name))
            except BadRow:
                told.append("no turn")
        return told

    def says(self, desk, row, wished):
        told = desk.say(row)
        self.assertIs(type(told), str)
        self.assertEqual(told, wished, row)


class MadeTest(Asking):
    def test_of_a_text(self):
        desk = Desk(TEXT)
        self.says(desk, "text", TEXT.replace("\n", "; "))
        self.says(desk, "state", "00")
        self.refused(BadRow, desk, "wire a")

    def test_of_the_empty_text(self):
        desk = Desk(text="")
        self.says(desk, "text", "nothing")
        self.says(desk, "state", "-")

    def test_refused_as_the_text(self):
        for text, error in (
            ("bad", BadLine), ("in a\n", BadLine), ("in a\nin a", Doubled), ("out x", NoWire), ("sum n = n", Ring),
            ("\n".join("in a%d" % number for number in range(7)), TooMany),
        ):
            with self.assertRaises(WireError) as caught:
                Desk(text)
            self.assertIs(type(caught.exception), error)
        with self.assertRaises(BadLine) as caught:
            Desk("in a\nin b\nin C")
        self.assertEqual(caught.exception.line, 2)

    def test_two_desks_have_nothing_in_common(self):
        one, other = Desk(TEXT), Desk(TEXT)
        one.say("turn 10")
        self.says(other, "state", "00")
        self.refused(BadRow, other, "wire a")
        other.say("net in a")
        self.says(one, "state", "10")
        self.says(one, "text", TEXT.replace("\n", "; "))


class FormsTest(Asking):
    def test_rows_without_a_form(self):
        rows = [
            "", " ", "  ", "hello", "-", "0", "Net", "NET in a", "nets", "turns 10", "States",
            "turn", "turn ", "turn 1", "turn 100", "turn 10 01", "turn  10", " turn 10", "turn 10 ", "turn 1x", "turn 12",
            "turn -", "turn a", "turn +1", "turn -1", "turn 1_0", "Turn 10",
            "run", "run ", "run 1", "run 10 1", "run 10  01", "run 10 01 ", " run 10", "run 10 01 -", "run -", "run 10 2",
            "state ", " state", "state 10", "states", "wire", "wire ", "wire A", "wire a b", "wire  a", "wire a ", " wire a",
            "wire 9", "wire abcdefg", "wire -", "text ", " text", "text a", "hangs", "hangs ", "hangs A", "hangs a b",
            "hangs a ", "come", "come ", "come 1", "come 100", "come 10 10", "come  10", "come 10 ", "come -", "come 2x",
            "apart", "apart 10", "apart 10 1", "apart 1 10", "apart 10 10 10", "apart 10  10", "apart 10 10 ", "apart - -",
            "bring", "bring 10", "bring 10 ", "bring 1 3", "bring 10 3 3", "bring 10 03", "bring 10 00", "bring 10 301",
            "bring 10 1000", "bring 10 -1", "bring 10 +1", "bring 10 x", "bring 10 1_0", "bring 3 10", "bring 10  3",
            "bring 10 3 ", "bring - 3", "bring 10 3.0", "ring ", " ring", "ring 10", "ring 1",
            "misses", "misses ", "misses 03", "misses 301", "misses 00", "misses -1", "misses x", "misses 3 3", "misses  3",
            "misses 3 ", "misses 1000", "back ", " back", "back 1", "least ", "least 1", " least",
            "cut", "cut ", "cut A", "cut a b", "cut  a", "cut a ", " cut a", "cut -",
            "net ", " net", " net in a", "bring 10 ten", "fits 10", "compared", "told 1", "say text",
        ]
        desk = Desk(TEXT)
        desk.say("turn 11")
        for row in rows:
            with self.subTest(row=row):
                self.no_form(desk, row)
                self.no_form(Desk(TEXT), row)

    def test_a_line_feed_at_any_place(self):
        desk = Desk(TEXT)
        for row in ASKED + ["turn 10", "run 10 01", "wire a", "net in a", "net"]:
            for place in range(len(row) + 1):
                self.no_form(desk, row[:place] + "\n" + row[place:])
        self.no_form(desk, "\n")
        self.no_form(desk, "net in a\nin b")

    def test_one_blank_more_anywhere(self):
        desk = Desk(TEXT)
        for row in ASKED + ["turn 10", "run 10 01", "wire a"]:
            for place in range(len(row) + 1):
                self.no_form(desk, row[:place] + " " + row[place:])

    def test_odd_signs(self):
        desk = Desk(TEXT)
        for sign in [chr(number) for number in range(32, 127)]:
            if sign not in "01":
                for row in ("turn 1", "turn ", "run 10 1", "come 0", "apart 10 1"):
                    self.no_form(desk, row + sign + ("" if row != "turn " else "0"))
            if sign not in "0123456789":
                for row in ("misses 1%s", "misses %s1", "misses %s", "bring 10 1%s", "bring 10 %s"):
                    self.no_form(desk, row % sign)

    def test_words_of_great_length(self):
        desk = Desk(TEXT)
        for row in ("misses " + "1" * 5000, "misses " + "0" * 5000, "bring 10 " + "3" * 5000, "turn " + "1" * 5000,
                    "come " + "0" * 5000, "wire " + "a" * 5000, "a" * 20000, "run " + "1" * 65, "apart 10 " + "1" * 65):
            self.no_form(desk, row)

    def test_widths_0(self):
        desk = Desk("")
        self.says(desk, "turn -", "-")
        self.says(desk, "run - - -", "- - -")
        self.says(desk, "come -", "come")
        self.says(desk, "apart - -", "alike")
        self.says(desk, "bring - 3", "rows - - -")
        self.says(desk, "bring - 0", "rows")
        for row in ("turn", "turn ", "turn 0", "turn 1", "turn --", "run", "run -  -", "come", "come ", "come 0",
                    "apart -", "apart  ", "bring 3", "bring  3", "bring 0 3", "bring -- 3"):
            self.no_form(desk, row)

    def test_numbers(self):
        desk = Desk(TEXT)
        for number in (0, 1, 9, 10, 20):
            self.says(desk, "misses %d" % number, "%d %d" % missed_share(table_of(read_net(TEXT)), number))
        for number in (21, 40, 99, 100, 299, 300):
            self.refused(BadRow, desk, "misses %d" % number)
        for number in (41, 100, 300):
            self.refused(BadRow, desk, "bring 10 %d" % number)
        for number in (0, 1, 20, 21, 40):
            self.assertIn(desk.say("bring 11 %d" % number).split(" ")[0], ("rows", "no"))
        for word in ("301", "999", "1000", "00", "01", "020", "0300"):
            self.no_form(desk, "misses " + word)
            self.no_form(desk, "bring 10 " + word)


class NetTest(Asking):
    def test_rows_of_a_net(self):
        desk = Desk(TEXT)
        desk.say("turn 11")
        self.says(desk, "net in a; sum n = a s; store s = n; out n", "ok")
        self.says(desk, "text", "in a; sum n = a s; store s = n; out n")
        self.says(desk, "state", "0")
        self.refused(BadRow, desk, "wire a")
        self.says(desk, "run 1 0 1", "1 1 0")

    def test_rows_in_any_order(self):
        desk = Desk("")
        self.says(desk, "net out n; sum n = a; in a", "ok")
        self.says(desk, "text", "in a; sum n = a; out n")
        self.says(desk, "net sum n =", "ok")
        self.says(desk, "text", "sum n =")

    def test_net_alone(self):
        desk = Desk(TEXT)
        self.says(desk, "net", "ok")
        self.says(desk, "text", "nothing")
        self.says(desk, "turn -", "-")

    def test_net_and_a_blank(self):
        self.no_form(Desk(TEXT), "net ")

    def test_the_run_begins_anew(self):
        desk = Desk(TEXT)
        desk.say("turn 11")
        self.says(desk, "net " + desk.say("text"), "ok")
        self.says(desk, "state", "00")
        self.refused(BadRow, desk, "wire a")

    def test_refused_nets_change_nothing(self):
        desk = Desk(TEXT)
        desk.say("turn 11")
        for row, line in (
            ("net  ", 0), ("net  in a", 0), ("net in a ", 0), ("net in a; bad", 1), ("net in a; ", 1), ("net ; in a", 0),
            ("net in a;in b", 0), ("net in a ; in b", 0), ("net in a; in b; in c d", 2), ("net in a;  in b", 1),
            ("net ;", 0), ("net ; ", 0), ("net in a;", 0), ("net bad", 0), ("net net in a", 0), ("net in a;; in b", 0),
            ("net sum n =; ", 1), ("net sum n = ; in a", 0),
        ):
            with self.subTest(row=row):
                self.assertEqual(self.refused(BadLine, desk, row).line, line)
        self.assertEqual(self.refused(Doubled, desk, "net in a; in a").name, "a")
        self.assertEqual(self.refused(NoWire, desk, "net in a; out b").name, "b")
        self.assertEqual(self.refused(Ring, desk, "net sum n = n").ring, ["n"])
        self.refused(TooMany, desk, "net " + "; ".join("in a%d" % number for number in range(7)))
        self.says(desk, "state", "10")


class RunTest(Asking):
    def test_turn_run_state_and_wire(self):
        desk = Desk(TEXT)
        self.says(desk, "turn 10", "100")
        self.says(desk, "state", "10")
        self.says(desk, "wire n", "1")
        self.says(desk, "wire s", "0")
        self.says(desk, "run 01", "101")
        self.says(desk, "state", "11")
        self.says(desk, "run 11 00", "011 010")
        self.says(desk, "wire b", "0")

    def test_a_refused_run_does_no_turn(self):
        desk = Desk(TEXT)
        self.no_form(desk, "run 10 01 1")
        self.says(desk, "state", "00")
        self.refused(BadRow, desk, "wire a")

    def test_wire_ahead_of_the_first_turn(self):
        desk = Desk(TEXT)
        self.assertEqual(self.refused(NoWire, desk, "wire x").name, "x")
        self.refused(BadRow, desk, "wire a")
        desk.say("turn 00")
        self.says(desk, "wire a", "0")
        self.assertEqual(self.refused(NoWire, desk, "wire x").name, "x")

    def test_drawn_nets(self):
        for seed in range(40):
            chance = draw(seed)
            lists = drawn_lists(chance)
            ins, _, stores, outs = lists
            rows = drawn_rows(chance, len(ins), 8)
            answers, states, bits = net_walk(lists, rows)
            desk = Desk(show_net(Net(*lists)))
            for place in range(4):
                self.says(desk, "turn " + signs(rows[place], len(ins)), signs(answers[place], len(outs)))
                self.says(desk, "state", signs(states[place], len(stores)))
                for name in bits[place]:
                    self.says(desk, "wire " + name, str(bits[place][name]))
            told = " ".join(signs(row, len(ins)) for row in rows[4:])
            self.says(desk, "run " + told, " ".join(signs(answer, len(outs)) for answer in answers[4:]))
            self.says(desk, "state", signs(states[7], len(stores)))

    def test_three_hundred_rows(self):
        rows = drawn_rows(draw(1), 2, 300)
        answers = net_walk(read_net(TEXT).told(), rows)[0]
        told = "run " + " ".join(signs(row, 2) for row in rows)
        self.says(Desk(TEXT), told, " ".join(signs(answer, 3) for answer in answers))


class QuestionsTest(Asking):
    def test_by_hand(self):
        desk = Desk(TEXT)
        self.says(desk, "hangs n", "s a")
        self.says(desk, "hangs m", "b")
        self.says(desk, "hangs t", "t")
        self.says(desk, "hangs a", "a")
        self.says(desk, "hangs z", "nothing")
        self.says(desk, "come 00", "come")
        self.says(desk, "come 10", "come 10")
        self.says(desk, "apart 01 00", "apart 0 1")
        self.says(desk, "apart 01 01", "alike")
        self.says(desk, "back", "back 0")
        self.says(desk, "cut a", "apart 0 0")
        self.says(desk, "cut z", "alike")
        self.assertEqual(self.refused(NoWire, desk, "hangs x").name, "x")
        self.assertEqual(self.refused(NoWire, desk, "cut x").name, "x")

    def test_never_and_no(self):
        desk = Desk("in a\nin b\nsum n = a b\nstore s = n\nstore t = t\nout s")
        self.says(desk, "come 01", "never")
        self.says(desk, "bring 01 5", "no")
        self.says(desk, "back", "never")
        self.says(desk, "apart 00 01", "alike")
        self.says(desk, "least", "in i0; in i1; sum n0 = i0 i1; sum o0 = s0; store s0 = n0; out o0")

    def test_nothing(self):
        desk = Desk("")
        for row in ("text", "least"):
            self.says(desk, row, "nothing")
        desk.say("net in a")
        self.says(desk, "text", "in a")
        self.says(desk, "least", "in i0")
        desk.say("net store s = s")
        self.says(desk, "least", "nothing")
        desk.say("net sum z =")
        self.says(desk, "hangs z", "nothing")

    def test_from_the_runs_state_behind_some_turns(self):
        desk = Desk("in a\nsum n = a t\nstore s = n\nstore t = s\nstore u = v\nstore v = a\nout u")
        self.says(desk, "ring", "0 1")
        self.says(desk, "bring 0000 0", "rows")
        self.says(desk, "bring 1001 1", "rows 1")
        desk.say("turn 1")
        self.says(desk, "state", "1001")
        self.says(desk, "ring", "2 2")
        self.says(desk, "bring 1001 0", "rows")
        self.says(desk, "bring 0000 0", "no")
        self.says(desk, "bring 0110 1", "rows 0")
        desk.say("turn 0")
        self.says(desk, "ring", "1 2")
        desk.say("turn 0")
        self.says(desk, "ring", "0 2")

    def test_questions_change_nothing(self):
        desk = Desk(TEXT)
        for _ in range(2):
            before = self.told_by(desk)
            for row in ASKED:
                self.says(desk, row, desk.say(row))
                self.assertEqual(self.told_by(desk), before)
            desk.say("run 10 11 01")

    def test_a_net_of_forty_sums(self):
        names = ["n%d" % number for number in range(40)]
        desk = Desk("\n".join(["in a"] + ["sum %s = a" % name for name in names]))
        self.refused(TooMany, desk, "cut a")
        self.assertEqual(self.refused(NoWire, desk, "cut x").name, "x")

    def test_the_very_things_that_the_functions_tell(self):
        for seed in range(40):
            chance = draw(seed)
            net = Net(*drawn_lists(chance, most=(6, 39, 16, 6)))
            desk = Desk(show_net(net))
            table = table_of(net)
            ins, stores = table.inputs, table.stores()
            state = 0
            for row in drawn_rows(chance, ins, chance.randrange(4)):
                desk.say("turn " + signs(row, ins))
                state = table.step(state, row)[1]
            one, other = chance.randrange(2 ** stores), chance.randrange(2 ** stores)
            self.asks_of_states(desk, table, state, one, other)
            told = told_back(table)
            self.says(desk, "back", "never" if told[0] == "never" else "back %d" % told[1])
            self.says(desk, "least", show_net(net_of(least(table)[0])).replace("\n", "; ") or "nothing")
            self.says(desk, "misses 7", "%d %d" % missed_share(table, 7))
            for name in net.wire_names()[:5]:
                store_mask, input_mask = hangs_on(net, name)
                names = [row[0] for place, row in enumerate(net.store_rows()) if store_mask >> place & 1]
                names += [row for place, row in enumerate(net.in_names()) if input_mask >> place & 1]
                self.says(desk, "hangs " + name, " ".join(names) or "nothing")
                told = cut_shown(net, name)
                self.says(desk, "cut " + name, "alike" if told[0] == "alike" else "apart %d %d" % told[1:])

    def asks_of_states(self, desk, table, state, one, other):
        ins, stores = table.inputs, table.stores()
        first, second = signs(one, stores), signs(other, stores)
        told = come_to(table, one)
        rows = "".join(" " + signs(row, ins) for row in told[1])
        self.says(desk, "come " + first, "come" + rows if told[0] == "come" else "never")
        told = told_apart(table, one, other)
        self.says(desk, "apart " + first + " " + second, "apart %d %d" % told[1:] if told[0] == "apart" else "alike")
        for turns in (0, 3, 40):
            told = brought(table, state, one, turns)
            rows = "".join(" " + signs(row, ins) for row in told[1]) if told[0] == "rows" else ""
            self.says(desk, "bring %s %d" % (first, turns), "rows" + rows if told[0] == "rows" else "no")
        self.says(desk, "ring", "%d %d" % ring_of(table, state))


class KeywordTest(Asking):
    def test_by_keyword(self):
        self.assertEqual(Desk(text="in a").say(row="text"), "in a")


if __name__ == "__main__":
    unittest.main()
