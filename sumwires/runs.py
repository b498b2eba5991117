"""Runs of nets, turn by turn and sum by sum."""

from sumwires.errors import BadMask, BadRow
from sumwires.words import is_mask, mask_of


def turn_bits(net, row, state):
    bits = {}
    for name in net.names_by_need():
        bits[name] = net.wire_of(name).bit(bits, row, state)
    return bits


def mask_at(wires, bits):
    return mask_of([place for place, wire in enumerate(wires) if bits[wire] == 1])


class Run:
    def __init__(self, net):
        self.net = net
        self.held = 0
        self.bits = {}
        self.given = []

    def step(self, row):
        if not is_mask(row, len(self.net.in_names())):
            raise BadMask("this is no input row of the net")
        self.bits = turn_bits(self.net, row, self.held)
        self.held = mask_at([store[1] for store in self.net.store_rows()], self.bits)
        answer = mask_at(self.net.out_wires(), self.bits)
        self.given.append(answer)
        return answer

    def state(self):
        return self.held

    def wire_now(self, name):
        self.net.wire_of(name)
        if len(self.given) == 0:
            raise BadRow("no turn was done yet")
        return self.bits[name]

    def answered(self):
        return list(self.given)


def answers_of(net, rows):
    going = Run(net)
    for row in rows:
        going.step(row)
    return going.answered()
