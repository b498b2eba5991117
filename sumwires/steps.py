"""Rows of masks brought to steps: sums of rows, and masks across them."""

from sumwires.words import bits_of, even


# Each step is a sum of rows, and no two steps have the same highest bit. They
# are kept by that bit's place, each with the mask of the places it is the sum of.
class Steps:
    def __init__(self, rows):
        self.by_top = {}
        self.free_places = []
        self.null_masks = []
        for place, row in enumerate(rows):
            self.lay(place, row)

    # What is left of a mask when steps are added to it until its highest bit
    # is no step's, and the mask of the places of the rows that were added.
    def lowered(self, mask):
        places = 0
        while mask.bit_length() - 1 in self.by_top:
            found = self.by_top[mask.bit_length() - 1]
            mask = mask ^ found[0]
            places = places ^ found[1]
        return (mask, places)

    def lay(self, place, row):
        found = self.lowered(row)
        places = found[1] ^ (1 << place)
        if found[0] == 0:
            self.null_masks.append(places)
        else:
            self.free_places.append(place)
            self.by_top[found[0].bit_length() - 1] = (found[0], places)

    # The mask that has this bit, no step's highest one, no bit below it, and is
    # even together with each step. From the lowest step up its own highest bit
    # mends it, which no lower step has.
    def barring(self, bit):
        mask = 1 << bit
        for top in sorted(self.by_top):
            if not even(mask & self.by_top[top][0]):
                mask = mask ^ (1 << top)
        return mask


def rank(rows):
    return len(Steps(rows).free_places)


def base(rows):
    return list(Steps(rows).free_places)


def sum_for(rows, wish):
    steps = Steps(rows)
    found = steps.lowered(wish)
    if found[0] == 0:
        return ("sum", bits_of(found[1]))
    # All bits of this mask are highest bits of the steps and of the rest, so it
    # is no wider than the rows and the wish are.
    return ("no", steps.barring(found[0].bit_length() - 1))


def null_sums(rows):
    return [bits_of(places) for places in Steps(rows).null_masks]


def across(rows, width):
    steps = Steps(rows)
    return [steps.barring(bit) for bit in range(width) if bit not in steps.by_top]


# Each of the masks stands for the next one of what is ahead of it, such as a
# state and those behind it. Told are those up to the first one that is a sum of
# the ones ahead of it, and for each the places of which its next one is the sum.
def chain(masks):
    place = 0
    found = sum_for([], masks[0])
    while found[0] == "no":
        place = place + 1
        found = sum_for(masks[:place], masks[place])
    sums = [[number + 1] for number in range(place - 1)]
    if place > 0:
        sums.append(found[1])
    return (masks[:place], sums)
