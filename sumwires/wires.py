"""Wires: inputs, sums and stores."""


class Wire:
    def __init__(self, name):
        self.name = name

    # Only a sum's bit comes from other wires of the same turn.
    def needs(self):
        return []


class InWire(Wire):
    def __init__(self, name, number):
        Wire.__init__(self, name)
        self.number = number

    def kind(self):
        return "in"

    def bit(self, known, row, state):
        return (row >> self.number) & 1

    def hang(self, known):
        return (0, 1 << self.number)


class SumWire(Wire):
    def __init__(self, name, wires):
        Wire.__init__(self, name)
        self.wires = tuple(wires)

    def kind(self):
        return "sum"

    def needs(self):
        return list(self.wires)

    def bit(self, known, row, state):
        total = 0
        for wire in self.wires:
            total = total ^ known[wire]
        return total

    def hang(self, known):
        store_mask = 0
        input_mask = 0
        for wire in self.wires:
            pair = known[wire]
            store_mask = store_mask ^ pair[0]
            input_mask = input_mask ^ pair[1]
        return (store_mask, input_mask)


class StoreWire(Wire):
    def __init__(self, name, wire, number):
        Wire.__init__(self, name)
        self.wire = wire
        self.number = number

    def kind(self):
        return "store"

    def bit(self, known, row, state):
        return (state >> self.number) & 1

    def hang(self, known):
        return (1 << self.number, 0)
