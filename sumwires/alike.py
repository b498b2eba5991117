"""Two machines compared: alike for all input rows, or apart."""

from sumwires.errors import BadSizes
from sumwires.steps import base, sum_for


# Both states as one mask, that of the one machine lowest.
def next_pair(one, other, pair, row):
    width = one.stores()
    low = pair & ((1 << width) - 1)
    return one.step(low, row)[1] ^ (other.step(pair >> width, row)[1] << width)


# Both machines have, taken as one, so many stores; what stays alike for as many
# turns and one more stays alike.
def first_unlike(one, other):
    turns = one.stores() + other.stores() + 1
    inputs = list(range(one.inputs))
    ones = [one.single(which, turns) for which in inputs]
    others = [other.single(which, turns) for which in inputs]
    for turn in range(turns):
        for which in inputs:
            if ones[which][turn] != others[which][turn]:
                return ("apart", which, turn)
    return None


def pairs_come_to(one, other):
    pairs = [next_pair(one, other, 0, 1 << which) for which in range(one.inputs)]
    told = []
    for turn in range(one.stores() + other.stores()):
        told.extend(pairs)
        pairs = [next_pair(one, other, pair, 0) for pair in pairs]
    return [told[place] for place in base(told)]


def compared(one, other):
    if one.inputs != other.inputs or one.outputs() != other.outputs():
        raise BadSizes("the machines have not as many inputs or not as many outs")
    apart = first_unlike(one, other)
    if apart is not None:
        return apart
    pairs = pairs_come_to(one, other)
    begins = [sum_for(pairs, next_pair(one, other, 0, 1 << which))[1] for which in range(one.inputs)]
    sums = [sum_for(pairs, next_pair(one, other, pair, 0))[1] for pair in pairs]
    width = one.stores()
    states = [(pair & ((1 << width) - 1), pair >> width) for pair in pairs]
    return ("alike", states, begins, sums)
