"""What the tests reckon with by themselves, apart from the program."""

import random


class Odd:
    """A thing that is like nothing else and can't be a key."""

    __hash__ = None


# Things of all kinds, none of which is a mask, a name, or a list of some.
THINGS = [
    None, True, False, -1, -2 ** 70, 0.0, 1.0, 2.5, 1j, "", " ", "0", "1", "A", "9a", "a b", "toolong", "a\n", b"", b"a",
    (), (0,), (0, 0), (0, 0, 0), ("a",), {}, {"a": 1}, {0: 0}, set(), {1}, frozenset(), range(2), Odd(), len, int,
]
LISTS = [[], [0], ["a"], [None], [[0]]]


def draw(seed):
    return random.Random(seed)


def parity(mask):
    return bin(mask).count("1") % 2


def total(masks):
    told = 0
    for mask in masks:
        told ^= mask
    return told


def at(masks, places):
    return total([masks[place] for place in places])


def rising(places):
    return type(places) is list and all(type(place) is int for place in places) and places == sorted(set(places))


def all_sums(masks):
    """The sum of each choice of masks, by the choice's own mask."""
    told = [0]
    for mask in masks:
        told += [one ^ mask for one in told]
    return told


def are_free(masks):
    """By turns the highest bit is cleared from all others; what comes to 0 was a sum of others."""
    left = list(masks)
    while left:
        mask = left.pop()
        if mask == 0:
            return False
        top = 1 << (mask.bit_length() - 1)
        left = [other ^ mask if other & top else other for other in left]
    return True


def rank_of(masks):
    told = 0
    left = list(masks)
    while left:
        mask = left.pop()
        if mask:
            told += 1
            top = 1 << (mask.bit_length() - 1)
            left = [other ^ mask if other & top else other for other in left]
    return told


def turn(told, state, row):
    """One turn of a machine that is told as (inputs, nexts, outs)."""
    def mask(pairs):
        return sum(1 << k for k, (one, other) in enumerate(pairs) if parity(one & state) != parity(other & row))

    return mask(told[2]), mask(told[1])


def walk(told, rows, state=0):
    answers = []
    for row in rows:
        answer, state = turn(told, state, row)
        answers.append(answer)
    return answers, state


def taken_back(told, mask):
    pairs = [pair for k, pair in enumerate(told[1]) if mask >> k & 1]
    return total([pair[0] for pair in pairs]), total([pair[1] for pair in pairs])


def drawn_rows(chance, inputs, count):
    return [chance.randrange(2 ** inputs) for _ in range(count)]


def drawn_table(chance, inputs, stores, outs, share=2):
    """Each bit is set with one in share."""
    def mask(width):
        return sum(1 << k for k in range(width) if chance.randrange(share) == 0)

    def pairs(count):
        return [(mask(stores), mask(inputs)) for _ in range(count)]

    return inputs, pairs(stores), pairs(outs)


def drawn_tables(seed, count, most=(6, 16, 6), shares=(2, 3, 6)):
    chance = draw(seed)
    for _ in range(count):
        sizes = [chance.randrange(top + 1) for top in most]
        yield drawn_table(chance, *sizes, share=chance.choice(shares))


def drawn_lists(chance, most=(6, 40, 16, 6)):
    """The four lists of a net, its sums told in any order."""
    ins, sums, stores, outs = [chance.randrange(top + 1) for top in most]
    names = ["w%d" % number for number in range(ins + sums + stores)]
    chance.shuffle(names)
    in_names, sum_names, store_names = names[:ins], names[ins:ins + sums], names[ins + sums:]
    rows = []
    for place, name in enumerate(sum_names):
        others = in_names + store_names + sum_names[:place]
        count = chance.choice([0, 1, 2, 2, 3, 5, 24]) if others else 0
        wires = [chance.choice(others) for _ in range(count)]
        rows.append((name, chance.choice([list, tuple])(wires)))
    chance.shuffle(rows)
    stores = [(name, chance.choice(names)) for name in store_names]
    return in_names, rows, stores, [chance.choice(names) for _ in range(outs)] if names else []


def net_walk(lists, rows):
    """The answers, the states behind the turns, and the bits of all wires at them."""
    ins, sums, stores, outs = lists
    state = [0] * len(stores)
    answers, states, bits = [], [], []
    for row in rows:
        known = {name: row >> k & 1 for k, name in enumerate(ins)}
        known.update({name: state[k] for k, (name, _) in enumerate(stores)})
        left = dict(sums)
        while left:
            for name, wires in list(left.items()):
                if all(wire in known for wire in wires):
                    known[name] = sum(known[wire] for wire in wires) % 2
                    del left[name]
        state = [known[wire] for _, wire in stores]
        answers.append(sum(known[wire] << k for k, wire in enumerate(outs)))
        states.append(sum(bit << k for k, bit in enumerate(state)))
        bits.append(known)
    return answers, states, bits
