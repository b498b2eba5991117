"""A wire cut, and whether it shows."""

from sumwires.alike import compared
from sumwires.errors import BadName, Doubled
from sumwires.nets import Net
from sumwires.tables import table_of
from sumwires.words import is_name


def put_for(wires, wire, fresh):
    return [fresh if other == wire else other for other in wires]


# Where there is no room for one sum more, the new net refuses it with TooMany.
def cut(net, wire, fresh):
    net.wire_of(wire)
    if not is_name(fresh):
        raise BadName(fresh)
    if fresh in net.wire_names():
        raise Doubled(fresh)
    sums = [(row[0], put_for(row[1], wire, fresh)) for row in net.sum_rows()]
    sums.append((fresh, []))
    stores = [(row[0], put_for([row[1]], wire, fresh)[0]) for row in net.store_rows()]
    return Net(net.in_names(), sums, stores, put_for(net.out_wires(), wire, fresh))


# One more name than the net has: at least one of them is free.
def free_name(net):
    known = net.wire_names()
    names = ["c" + str(number) for number in range(len(known) + 1)]
    return [name for name in names if name not in known][0]


def cut_shown(net, wire):
    return compared(table_of(net), table_of(cut(net, wire, free_name(net))))
