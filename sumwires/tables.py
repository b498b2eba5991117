"""The table of a net, the net of a table, and answers as sums of answers."""

from sumwires.errors import BadMask
from sumwires.machines import Machine
from sumwires.nets import Net
from sumwires.words import bits_of, is_mask


def hangs(net):
    pairs = {}
    for name in net.names_by_need():
        pairs[name] = net.wire_of(name).hang(pairs)
    return pairs


def table_of(net):
    pairs = hangs(net)
    nexts = [pairs[row[1]] for row in net.store_rows()]
    outs = [pairs[wire] for wire in net.out_wires()]
    return Machine(len(net.in_names()), nexts, outs)


def hangs_on(net, name):
    net.wire_of(name)
    return hangs(net)[name]


def numbered(letter, count):
    return [letter + str(number) for number in range(count)]


def named_sum(name, pair):
    stores = ["s" + str(place) for place in bits_of(pair[0])]
    return (name, stores + ["i" + str(place) for place in bits_of(pair[1])])


def net_of(machine):
    next_names = numbered("n", machine.stores())
    out_names = numbered("o", machine.outputs())
    pairs = list(machine.nexts) + list(machine.outs)
    sums = [named_sum(name, pair) for name, pair in zip(next_names + out_names, pairs)]
    stores = list(zip(numbered("s", machine.stores()), next_names))
    return Net(numbered("i", machine.inputs), sums, stores, out_names)


def summed(machine, rows):
    if not all([is_mask(row, machine.inputs) for row in rows]):
        raise BadMask("one of these is no input row of the machine")
    singles = [machine.single(which, len(rows)) for which in range(machine.inputs)]
    answers = [0] * len(rows)
    for turn, row in enumerate(rows):
        for which in bits_of(row):
            for later in range(turn, len(rows)):
                answers[later] = answers[later] ^ singles[which][later - turn]
    return answers
