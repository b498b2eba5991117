"""The least machine that answers alike, and a paper that shows it."""

from sumwires.machines import Machine
from sumwires.states import reach, rows_at
from sumwires.steps import base, sum_for
from sumwires.words import even, mask_of


# For each turn and output, turn by turn, the mask that is odd together with just
# those states that are answered by 1 there while all rows are 0.
def look_masks(machine):
    masks = [pair[0] for pair in machine.outs]
    told = []
    for turn in range(machine.stores()):
        told.extend(masks)
        masks = [machine.back(mask)[0] for mask in masks]
    return told


def odd_with(mask, others):
    return mask_of([place for place, other in enumerate(others) if not even(mask & other)])


# A mask over the old stores, told as a sum of the looks. It is enough that both
# are odd together with the same ones of the states: every other state that is
# come to is answered as a sum of these is.
def told_by_looks(pair, states, seen):
    return (mask_of(sum_for(seen, odd_with(pair[0], states))[1]), pair[1])


# The stores of the least machine hold what the looks show of the old state.
def least(machine):
    leads = reach(machine, machine.stores())
    masks = look_masks(machine)
    led = base([odd_with(state, masks) for state in leads])
    states = [leads[place] for place in led]
    looks = base([odd_with(mask, states) for mask in masks])
    seen = [odd_with(masks[place], states) for place in looks]
    nexts = [told_by_looks(machine.back(masks[place]), states, seen) for place in looks]
    outs = [told_by_looks(pair, states, seen) for pair in machine.outs]
    rows = [rows_at(machine, [place], machine.stores()) for place in led]
    return (Machine(machine.inputs, nexts, outs), rows, [divmod(place, machine.outputs()) for place in looks])
