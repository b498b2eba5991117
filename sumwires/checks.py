"""Machines as check sums, and what they miss."""

from sumwires.errors import BadRow
from sumwires.steps import across, rank
from sumwires.words import is_mask, is_whole, packed, unpacked

MOST_TURNS = 20


def check_turns(turns):
    if not is_whole(turns) or turns < 0 or turns > MOST_TURNS:
        raise BadRow("the number of turns is a whole number from 0 to 20")


def check_rows(machine, rows):
    if not isinstance(rows, list) or len(rows) > MOST_TURNS:
        raise BadRow("this is no list of at most 20 input rows")
    if not all([is_mask(row, machine.inputs) for row in rows]):
        raise BadRow("one of these is no input row of the machine")


# From the last turn back to the first one: what the mask's bits come to behind a
# turn hangs on that turn's inputs and on the mask taken back.
def check_mask(machine, store, turns):
    mask = 1 << store
    parts = []
    for turn in range(turns):
        pair = machine.back(mask)
        mask = pair[0]
        parts.append(pair[1])
    return packed(list(reversed(parts)), machine.inputs)


def check_masks(machine, turns):
    check_turns(turns)
    return [check_mask(machine, store, turns) for store in range(machine.stores())]


def missed(machine, rows):
    check_rows(machine, rows)
    return any([row != 0 for row in rows]) and machine.after(rows) == 0


# What is missed are the sums of the base, but the one of none.
def missed_share(machine, turns):
    masks = check_masks(machine, turns)
    width = turns * machine.inputs
    return ((1 << (width - rank(masks))) - 1, (1 << width) - 1)


def missed_base(machine, turns):
    masks = check_masks(machine, turns)
    return [unpacked(mask, machine.inputs, turns) for mask in across(masks, turns * machine.inputs)]
