"""The least machine that makes a heard row of bits."""

from sumwires.errors import BadRow
from sumwires.machines import Machine
from sumwires.steps import sum_for
from sumwires.words import bits_of, is_mask, mask_of, packed

LONGEST_HEARD = 40


def check_heard(row):
    if not isinstance(row, list) or len(row) > LONGEST_HEARD:
        raise BadRow("a heard row is a list of at most 40 bits")
    if not all([is_mask(bit, 1) for bit in row]):
        raise BadRow("a heard bit is the whole number 0 or 1")


# A rule of this length tells each bit as one and the same sum of so many bits
# ahead of it. Told are which ones of them; or a mask of places that bars it.
def rule_for(row, length):
    count = len(row) - length
    columns = [packed(row[place:place + count], 1) for place in range(length)]
    return sum_for(columns, packed(row[length:], 1))


# The stores hold the next bits of the row, the one that is due in store 0.
def row_machine(length, places):
    nexts = [(1 << (place + 1), 0) for place in range(length - 1)]
    if length > 0:
        nexts.append((mask_of(places), 0))
    return Machine(0, nexts, [(1 if length > 0 else 0, 0)])


def heard(row):
    check_heard(row)
    length = 0
    found = rule_for(row, length)
    times = []
    while found[0] == "no":
        times = bits_of(found[1])
        length = length + 1
        found = rule_for(row, length)
    return (row_machine(length, found[1]), packed(row[:length], 1), times)
