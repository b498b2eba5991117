"""Input rows told back from the answers, or never."""

from sumwires.machines import Machine
from sumwires.steps import across, base, sum_for
from sumwires.words import bits_of, mask_of, packed, unpacked


def joined(pair, stores):
    return pair[0] ^ (pair[1] << stores)


# States, each with an input row beside it above its bits, that are answered by 0
# and lead to a state that no bar is odd together with.
def silent_ways(machine, bars):
    stores = machine.stores()
    rows = [joined(pair, stores) for pair in machine.outs]
    rows.extend([joined(machine.back(bar), stores) for bar in bars])
    ways = across(rows, stores + machine.inputs)
    states = [way & ((1 << stores) - 1) for way in ways]
    return [ways[place] for place in base(states)]


# The bars of the states that can be answered by 0 for ever, and the ways that do
# it. At first no state is barred; each time those are barred that have no way to
# a state that isn't, until none is barred any more.
def silent_for_ever(machine):
    stores = machine.stores()
    bars = []
    ways = silent_ways(machine, bars)
    while len(ways) + len(bars) < stores:
        bars = across([way & ((1 << stores) - 1) for way in ways], stores)
        ways = silent_ways(machine, bars)
    return (bars, ways)


def never_told(machine):
    found = silent_for_ever(machine)
    rows = [pair[1] for pair in machine.outs]
    rows.extend([machine.back(bar)[1] for bar in found[0]])
    firsts = across(rows, machine.inputs)
    if len(firsts) == 0:
        return None
    stores = machine.stores()
    states = [way & ((1 << stores) - 1) for way in found[1]]
    inputs = [way >> stores for way in found[1]]
    begin = sum_for(states, machine.step(0, firsts[0])[1])[1]
    sums = [sum_for(states, machine.step(state, row)[1])[1] for state, row in zip(states, inputs)]
    return ("never", firsts[0], begin, states, inputs, sums)


# For so many turns the answers, as one mask, to each single sign: that of input k
# at turn t stands at the place t * inputs + k.
def sign_answers(machine, turns):
    outs = machine.outputs()
    singles = [packed(machine.single(which, turns), outs) for which in range(machine.inputs)]
    whole = (1 << (turns * outs)) - 1
    told = []
    for turn in range(turns):
        told.extend([(answers << (turn * outs)) & whole for answers in singles])
    return told


# For each input a mask over the answers of delay turns and one more that is odd
# together with what its sign at turn 0 answers, and even with what all other
# signs do; or input rows, the first not 0, that are answered by 0 in these turns.
def tellers(machine, delay):
    answers = sign_answers(machine, delay + 1)
    masks = []
    for which in range(machine.inputs):
        others = list(answers)
        others[which] = 0
        found = sum_for(others, answers[which])
        if found[0] == "sum":
            return ("silent", unpacked(mask_of(found[1] + [which]), machine.inputs, delay + 1))
        masks.append(found[1])
    return ("masks", masks)


# Where the answers are odd together with the mask, less what the state at their
# first turn adds to them. The state stands in the lowest stores, the answers but
# the last one behind it, and the last one is handed in.
def teller_pair(machine, delay, mask):
    outs = machine.outputs()
    store_mask = 0
    looks = [pair[0] for pair in machine.outs]
    for answer in unpacked(mask, outs, delay + 1):
        for place in bits_of(answer):
            store_mask = store_mask ^ looks[place]
        looks = [machine.back(look)[0] for look in looks]
    kept = mask & ((1 << (delay * outs)) - 1)
    return (store_mask ^ (kept << machine.stores()), mask >> (delay * outs))


def followed_pair(pair, tellings):
    store_mask = pair[0]
    input_mask = 0
    for which in bits_of(pair[1]):
        store_mask = store_mask ^ tellings[which][0]
        input_mask = input_mask ^ tellings[which][1]
    return (store_mask, input_mask)


# The answers of the last delay turns, the oldest one lowest: each takes the place
# of the one ahead of it, and the newest is the one that is handed in.
def kept_answers(machine, delay):
    outs = machine.outputs()
    moved = [(1 << (machine.stores() + place), 0) for place in range(outs, delay * outs)]
    newest = [(0, 1 << out) for out in range(outs)] if delay > 0 else []
    return moved + newest


# It follows the first machine delay turns behind, by the input rows it tells
# itself. Ahead of turn delay all it has kept is 0, as if the first one had been
# handed rows 0 for so many turns.
def telling_machine(machine, delay, masks):
    tellings = [teller_pair(machine, delay, mask) for mask in masks]
    nexts = [followed_pair(pair, tellings) for pair in machine.nexts]
    return Machine(machine.outputs(), nexts + kept_answers(machine, delay), tellings)


def told_back(machine):
    never = never_told(machine)
    if never is not None:
        return never
    rows = []
    delay = 0
    found = tellers(machine, delay)
    while found[0] == "silent":
        rows = found[1]
        delay = delay + 1
        found = tellers(machine, delay)
    return ("back", delay, telling_machine(machine, delay, found[1]), rows)
