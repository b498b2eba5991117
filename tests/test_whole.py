"""Points 1 and 6 over drawn nets, and the whole interface."""

import os
import unittest

from reckon import draw, drawn_lists, drawn_rows, net_walk
from sumwires.nets import Net
from sumwires.nettext import read_net, show_net
from sumwires.runs import answers_of
from sumwires.tables import net_of, summed, table_of

# The names, arguments and methods of the interface, module by module.
FUNCTIONS = {
    "words": ["is_whole thing", "is_mask thing width", "is_name thing", "even number", "bits_of mask", "mask_of places",
              "text_of mask width", "mask_in text", "words_of row"],
    "nettext": ["read_net text", "show_net net"],
    "runs": ["answers_of net rows"],
    "tables": ["table_of net", "hangs_on net name", "net_of machine", "summed machine rows"],
    "steps": ["rank rows", "base rows", "sum_for rows wish", "null_sums rows", "across rows width"],
    "states": ["come_to machine state", "told_apart machine one other", "brought machine start wish turns",
               "fits machine rows answers"],
    "least": ["least machine"],
    "alike": ["compared one other"],
    "back": ["told_back machine"],
    "heard": ["heard row"],
    "polys": ["times one other", "divided one other", "common one other", "factors poly", "order_of poly"],
    "rings": ["ring_of machine state"],
    "checks": ["check_masks machine turns", "missed machine rows", "missed_share machine turns",
               "missed_base machine turns"],
    "cuts": ["cut net wire fresh", "cut_shown net wire"],
}
CLASSES = {
    "wires": {"Wire": [], "InWire": ["__init__ name number", "kind", "needs", "bit known row state", "hang known"],
              "SumWire": ["__init__ name wires", "kind", "needs", "bit known row state", "hang known"],
              "StoreWire": ["__init__ name wire number", "kind", "needs", "bit known row state", "hang known"]},
    "nets": {"Net": ["__init__ ins sums stores outs", "in_names", "sum_rows", "store_rows", "out_wires", "wire_names",
                     "order", "told", "wire_of name"]},
    "runs": {"Run": ["__init__ net", "step row", "state", "wire_now name", "answered"]},
    "machines": {"Machine": ["__init__ inputs nexts outs", "stores", "outputs", "told", "step state row",
                             "run rows state", "after rows state", "single which turns", "back mask"]},
    "desk": {"Desk": ["__init__ text", "say row"]},
}


def arguments(call):
    return list(call.__code__.co_varnames[:call.__code__.co_argcount])


class InterfaceTest(unittest.TestCase):
    def module(self, name):
        return __import__("sumwires." + name, fromlist=[name])

    def test_functions(self):
        for name, rows in FUNCTIONS.items():
            for row in rows:
                words = row.split(" ")
                self.assertEqual(arguments(getattr(self.module(name), words[0])), words[1:], row)

    def test_classes(self):
        for name, classes in CLASSES.items():
            for title, rows in classes.items():
                made = getattr(self.module(name), title)
                for row in rows:
                    words = row.split(" ")
                    self.assertEqual(arguments(getattr(made, words[0])), ["self"] + words[1:], row)

    def test_a_module_for_each_part(self):
        folder = os.path.dirname(self.module("errors").__file__)
        files = {name[:-3] for name in os.listdir(folder) if name.endswith(".py")}
        self.assertLessEqual(set(FUNCTIONS) | set(CLASSES) | {"errors", "__init__"}, files)


class WholeTest(unittest.TestCase):
    def test_three_ways_of_one_run(self):
        for seed in range(120):
            chance = draw(seed)
            lists = drawn_lists(chance)
            net = Net(*lists)
            rows = drawn_rows(chance, len(lists[0]), 1 + chance.randrange(24))
            answers = net_walk(lists, rows)[0]
            table = table_of(net)
            self.assertEqual(answers_of(net, rows), answers)
            self.assertEqual(table.run(rows), answers)
            self.assertEqual(summed(table, rows), answers)

    def test_text_to_net_to_table_to_net_to_text(self):
        for seed in range(60):
            chance = draw(seed)
            lists = drawn_lists(chance)
            text = show_net(Net(*lists))
            net = read_net(text)
            self.assertEqual(show_net(net), text)
            other = net_of(table_of(net))
            self.assertEqual(table_of(other).told(), table_of(net).told())
            again = read_net(show_net(other))
            self.assertEqual(again.told(), other.told())
            self.assertEqual(show_net(net_of(table_of(again))), show_net(other))
            rows = drawn_rows(chance, len(lists[0]), 10)
            self.assertEqual(answers_of(again, rows), net_walk(lists, rows)[0])

    def test_the_text_of_a_tables_net_comes_back_to_the_letter(self):
        text = "in i0\nsum n0 = s1 i0\nsum n1 = s0\nsum o0 = s0 s1\nstore s0 = n0\nstore s1 = n1\nout o0"
        self.assertEqual(show_net(net_of(table_of(read_net(text)))), text)


if __name__ == "__main__":
    unittest.main()
