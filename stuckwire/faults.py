"""The faults of a circuit, the GIVENs that tell one, and a way by which it is seen."""

from stuckwire.circuits import bits_for, leg_wires, out_tables
from stuckwire.errors import NotTold


def needed(circuit):
    marked = {}
    for out in circuit.outs:
        marked[out] = True
    # From the last row on: a wire is gone by in later rows alone, so by its turn all
    # that could need it have been judged.
    for wire in range(circuit.ins + len(circuit.rows) - 1, circuit.ins - 1, -1):
        if wire in marked:
            for source in sources_of(circuit, wire):
                marked[source] = True
    return sorted(marked)


def all_faults(circuit):
    faults = []
    for wire in needed(circuit):
        for bit in bits_to_stick(circuit, wire):
            faults.append(("wire", wire, bit))
        for leg, source in enumerate(sources_of(circuit, wire)):
            for bit in bits_to_stick(circuit, source):
                faults.append(("leg", wire, leg, bit))
    return faults


def sources_of(circuit, wire):
    if wire < circuit.ins:
        return []
    return leg_wires(circuit.rows[wire - circuit.ins])


# A fix wire stuck at its own bit would be no fault at all.
def bits_to_stick(circuit, wire):
    if wire >= circuit.ins and circuit.rows[wire - circuit.ins][0] == "fix":
        return [1 - circuit.rows[wire - circuit.ins][1]]
    return [0, 1]


def telling(circuit, fault):
    return tellings(circuit, [fault])[0]


# The good circuit's tables serve for all the faults, so they are found once.
def tellings(circuit, faults):
    good = out_tables(circuit)
    return [differing(good, out_tables(circuit, fault)) for fault in faults]


def differing(one_tables, other_tables):
    found = 0
    for one, other in zip(one_tables, other_tables):
        found = found | (one ^ other)
    return found


def least_telling(circuit, fault):
    return least_given(telling(circuit, fault))


def least_given(told):
    if told == 0:
        return None
    # A number and its negative share just the least of its bits.
    return (told & -told).bit_length() - 1


def way_seen(circuit, fault, given):
    # Inputs there are none of have no bit: such a GIVEN would pass for a smaller one.
    if given >> circuit.ins != 0:
        raise NotTold("there is no such GIVEN")
    differs = wires_differing(circuit, fault, given)
    seen = [out for out in circuit.outs if differs[out]]
    if seen == []:
        raise NotTold("the GIVEN does not tell the fault")
    # Backwards from an out: a wire differs by the fault itself or by a wire that its
    # gate goes by, so this ends at the fault's own wire.
    way = [seen[0]]
    while way[-1] != fault[1]:
        way.append([source for source in sources_of(circuit, way[-1]) if differs[source]][0])
    return list(reversed(way))


def wires_differing(circuit, fault, given):
    good = bits_for(circuit, given)
    bad = bits_for(circuit, given, fault)
    return [one != other for one, other in zip(good, bad)]
