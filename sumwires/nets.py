"""Nets of inputs, sums, stores and outs."""

from sumwires.errors import BadName, Doubled, NoWire, Ring, TooMany
from sumwires.wires import InWire, StoreWire, SumWire
from sumwires.words import is_name

MOST_INS = 6
MOST_SUMS = 40
MOST_STORES = 16
MOST_OUTS = 6
MOST_WIRES = 24


def check_sizes(ins, sums, stores, outs):
    if len(ins) > MOST_INS:
        raise TooMany("a net has at most six inputs")
    if len(sums) > MOST_SUMS:
        raise TooMany("a net has at most forty sums")
    if len(stores) > MOST_STORES:
        raise TooMany("a net has at most sixteen stores")
    if len(outs) > MOST_OUTS:
        raise TooMany("a net has at most six outs")
    if any([len(row[1]) > MOST_WIRES for row in sums]):
        raise TooMany("a sum has at most twenty-four wires")


def check_names(names):
    known = {}
    for name in names:
        if not is_name(name):
            raise BadName(name)
        if name in known:
            raise Doubled(name)
        known[name] = True


# What is no name is asked for first: it may be a thing that no dict can look up.
def check_wire(wire, known):
    if not is_name(wire) or wire not in known:
        raise NoWire(wire)


def check_wires(sums, stores, outs, known):
    for row in sums:
        for wire in row[1]:
            check_wire(wire, known)
    for row in stores:
        check_wire(row[1], known)
    for wire in outs:
        check_wire(wire, known)


def wires_by_name(ins, sums, stores):
    wires = [InWire(name, number) for number, name in enumerate(ins)]
    wires.extend([SumWire(row[0], row[1]) for row in sums])
    wires.extend([StoreWire(row[0], row[1], number) for number, row in enumerate(stores)])
    return dict([(wire.name, wire) for wire in wires])


def waits(row, waiting):
    return any([wire in waiting for wire in row[1]])


# Each of these sums has one of them among its wires, so a walk from sum to sum
# never ends, and must come to a sum for the second time.
def ring_among(rows):
    waiting = dict(rows)
    path = []
    name = rows[0][0]
    while name not in path:
        path.append(name)
        name = [wire for wire in waiting[name] if wire in waiting][0]
    return path[path.index(name):]


def ordered(sums):
    names = []
    left = list(sums)
    while len(left) > 0:
        waiting = dict(left)
        ready = [row[0] for row in left if not waits(row, waiting)]
        if len(ready) == 0:
            raise Ring(ring_among(left))
        names.extend(ready)
        left = [row for row in left if waits(row, waiting)]
    return names


class Net:
    def __init__(self, ins, sums, stores, outs):
        check_sizes(ins, sums, stores, outs)
        check_names(list(ins) + [row[0] for row in sums] + [row[0] for row in stores])
        self.ins = tuple(ins)
        self.sums = tuple([(row[0], tuple(row[1])) for row in sums])
        self.kept_stores = tuple([(row[0], row[1]) for row in stores])
        self.outs = tuple(outs)
        self.by_name = wires_by_name(self.ins, self.sums, self.kept_stores)
        check_wires(self.sums, self.kept_stores, self.outs, self.by_name)
        self.sum_order = tuple(ordered(self.sums))

    def in_names(self):
        return list(self.ins)

    def sum_rows(self):
        return list(self.sums)

    def store_rows(self):
        return list(self.kept_stores)

    def out_wires(self):
        return list(self.outs)

    def told(self):
        return (self.in_names(), self.sum_rows(), self.store_rows(), self.out_wires())

    def wire_names(self):
        return list(self.by_name)

    def wire_of(self, name):
        check_wire(name, self.by_name)
        return self.by_name[name]

    def order(self):
        return list(self.sum_order)

    # All wires, each behind those that its bit needs in the same turn.
    def names_by_need(self):
        return list(self.ins) + [row[0] for row in self.kept_stores] + list(self.sum_order)
