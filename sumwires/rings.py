"""How a state goes round while all input rows are 0."""

from sumwires.polys import turns_to_one
from sumwires.states import states_behind
from sumwires.steps import chain
from sumwires.words import mask_of


# The least polynomial with which a turn takes the state to 0: the state behind as
# many turns as its degree tells is the sum of the ones ahead at its lower bits.
def state_poly(machine, state):
    shown = chain(states_behind(machine, state))
    if len(shown[0]) == 0:
        return 1
    return mask_of(shown[1][-1] + [len(shown[0])])


# The states behind t and behind t + e turns are the same just where the polynomial
# divides x to the t times x to the e plus 1. So its factors x tell the lead, and
# the order of what is left tells the length.
def ring_of(machine, state):
    machine.check_state(state)
    poly = state_poly(machine, state)
    lead = 0
    while poly & 1 == 0:
        poly = poly >> 1
        lead = lead + 1
    if poly == 1:
        return (lead, 1)
    return (lead, turns_to_one(poly))
