"""States of small machines: come to, told apart, brought about, and sought."""

from sumwires.errors import BadRow
from sumwires.steps import chain, null_sums, sum_for
from sumwires.words import bits_of, is_mask, is_whole, mask_of, packed, unpacked

MOST_TURNS = 40
MOST_HEARD = 40


# The states behind so many input rows of which just one has just one bit set:
# for input k at turn t it stands at the place t * inputs + k. So a mask of these
# places, unpacked, is the input rows that lead to the sum of the states there.
def reach(machine, turns):
    states = [machine.step(0, 1 << which)[1] for which in range(machine.inputs)]
    told = []
    for turn in range(turns):
        told = states + told
        states = [machine.step(state, 0)[1] for state in states]
    return told


def rows_at(machine, places, turns):
    return unpacked(mask_of(places), machine.inputs, turns)


# As many as there are stores and one more: at least one is a sum of the others.
def states_behind(machine, state):
    states = [state]
    for turn in range(machine.stores()):
        states.append(machine.step(states[-1], 0)[1])
    return states


def masks_ahead(machine, mask):
    masks = [mask]
    for turn in range(machine.stores()):
        masks.append(machine.back(masks[-1])[0])
    return masks


def come_to(machine, state):
    machine.check_state(state)
    bar = 0
    for turns in range(machine.stores() + 1):
        found = sum_for(reach(machine, turns), state)
        if found[0] == "sum":
            return ("come", rows_at(machine, found[1], turns), bar)
        bar = found[1]
    shown = chain(masks_ahead(machine, bar))
    return ("never", shown[0], shown[1])


def told_apart(machine, one, other):
    machine.check_state(one)
    machine.check_state(other)
    shown = chain(states_behind(machine, one ^ other))
    # Answers add up: the two are answered unlike just where their sum isn't
    # answered 0 by rows 0.
    for turn, state in enumerate(shown[0]):
        answer = machine.step(state, 0)[0]
        if answer != 0:
            return ("apart", turn, answer.bit_length() - 1)
    return ("alike", shown[0], shown[1])


def brought(machine, start, wish, turns):
    machine.check_state(start)
    machine.check_state(wish)
    if not is_whole(turns) or turns < 0 or turns > MOST_TURNS:
        raise BadRow("the number of turns is a whole number from 0 to 40")
    found = sum_for(reach(machine, turns), wish ^ machine.after([0] * turns, start))
    if found[0] == "sum":
        return ("rows", rows_at(machine, found[1], turns))
    return found


def check_list(rows, width):
    if not isinstance(rows, list) or len(rows) > MOST_HEARD:
        raise BadRow("this is no list of at most 40")
    if not all([is_mask(row, width) for row in rows]):
        raise BadRow("one of these has not the width that is asked for")


def looks_of(mask, outs):
    return [divmod(place, outs) for place in bits_of(mask)]


def fits(machine, rows, answers):
    check_list(rows, machine.inputs)
    outs = machine.outputs()
    check_list(answers, outs)
    if len(answers) != len(rows):
        raise BadRow("there are not as many answers as input rows")
    # What each store by itself adds to the answers, and what is left for them.
    silent = [0] * len(rows)
    added = [packed(machine.run(silent, 1 << store), outs) for store in range(machine.stores())]
    wish = packed(answers, outs) ^ packed(machine.run(rows), outs)
    found = sum_for(added, wish)
    if found[0] == "sum":
        return ("fit", mask_of(found[1]), [mask_of(places) for places in null_sums(added)])
    return ("unfit", looks_of(found[1], outs))
