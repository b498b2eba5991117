"""The text of a net, written and read."""

from sumwires.errors import BadLine
from sumwires.nets import Net
from sumwires.words import is_name, words_of


def has_form(words):
    if words[0] in ("in", "out"):
        return len(words) == 2 and is_name(words[1])
    if words[0] not in ("sum", "store") or len(words) < 3 or words[2] != "=":
        return False
    if words[0] == "store" and len(words) != 4:
        return False
    return is_name(words[1]) and all([is_name(word) for word in words[3:]])


# To Python the empty text is one row, to the document it has none.
def rows_of(text):
    return [] if text == "" else text.split("\n")


def read_net(text):
    rows = [words_of(row) for row in rows_of(text)]
    for number, words in enumerate(rows):
        if not has_form(words):
            raise BadLine(number)
    ins = [words[1] for words in rows if words[0] == "in"]
    sums = [(words[1], words[3:]) for words in rows if words[0] == "sum"]
    stores = [(words[1], words[3]) for words in rows if words[0] == "store"]
    outs = [words[1] for words in rows if words[0] == "out"]
    return Net(ins, sums, stores, outs)


def show_net(net):
    rows = [["in", name] for name in net.in_names()]
    rows.extend([["sum", row[0], "="] + list(row[1]) for row in net.sum_rows()])
    rows.extend([["store", row[0], "=", row[1]] for row in net.store_rows()])
    rows.extend([["out", wire] for wire in net.out_wires()])
    return "\n".join([" ".join(words) for words in rows])
