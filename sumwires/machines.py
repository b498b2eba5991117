"""Machines: inputs, stores and outs, told by tables of masks."""

from sumwires.errors import BadMask, BadTable
from sumwires.words import bits_of, even, is_mask, is_whole, mask_of

MOST_INPUTS = 6
MOST_STORES = 120
MOST_OUTS = 6


def is_pair(thing, stores, inputs):
    if not isinstance(thing, tuple) or len(thing) != 2:
        return False
    return is_mask(thing[0], stores) and is_mask(thing[1], inputs)


def check_table(inputs, nexts, outs):
    if not is_whole(inputs) or inputs < 0 or inputs > MOST_INPUTS:
        raise BadTable("the number of inputs is a whole number from 0 to 6")
    if not isinstance(nexts, list) or len(nexts) > MOST_STORES:
        raise BadTable("the stores are told by a list of at most 120 pairs")
    if not isinstance(outs, list) or len(outs) > MOST_OUTS:
        raise BadTable("the outs are told by a list of at most six pairs")
    if not all([is_pair(pair, len(nexts), inputs) for pair in nexts + outs]):
        raise BadTable("a pair is a tuple of a mask over the stores and one over the inputs")


def is_odd(pair, state, row):
    return even(pair[0] & state) != even(pair[1] & row)


def odd_places(pairs, state, row):
    return mask_of([place for place, pair in enumerate(pairs) if is_odd(pair, state, row)])


class Machine:
    def __init__(self, inputs, nexts, outs):
        check_table(inputs, nexts, outs)
        self.inputs = inputs
        self.nexts = tuple(nexts)
        self.outs = tuple(outs)

    def stores(self):
        return len(self.nexts)

    def outputs(self):
        return len(self.outs)

    def told(self):
        return (self.inputs, list(self.nexts), list(self.outs))

    def check_state(self, state):
        if not is_mask(state, len(self.nexts)):
            raise BadMask("this is no mask over the stores of the machine")

    def step(self, state, row):
        self.check_state(state)
        if not is_mask(row, self.inputs):
            raise BadMask("this is no input row of the machine")
        return (odd_places(self.outs, state, row), odd_places(self.nexts, state, row))

    # The state is looked at by itself, as there may be no row to do a turn with.
    def walked(self, rows, state):
        self.check_state(state)
        answers = []
        for row in rows:
            done = self.step(state, row)
            answers.append(done[0])
            state = done[1]
        return (answers, state)

    def run(self, rows, state=0):
        return self.walked(rows, state)[0]

    def after(self, rows, state=0):
        return self.walked(rows, state)[1]

    def single(self, which, turns):
        if not is_whole(which) or which < 0 or which >= self.inputs:
            raise BadMask("this is no number of an input")
        rows = [1 << which] + [0] * turns
        return self.run(rows[:turns])

    def back(self, mask):
        self.check_state(mask)
        store_mask = 0
        input_mask = 0
        for place in bits_of(mask):
            store_mask = store_mask ^ self.nexts[place][0]
            input_mask = input_mask ^ self.nexts[place][1]
        return (store_mask, input_mask)
