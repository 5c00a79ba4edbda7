"""Circuits made lean: the same tables at the outs, and no fault that is idle."""

from stuckwire.circuits import Circuit, full_table, input_tables, leg_values, leg_wires, out_tables, tables
from stuckwire.faults import all_faults, differing, needed


# An idle fault can be put in for good. Each time a leg at least goes, so this ends.
def lean(circuit):
    found = without_spare(circuit, None)
    fault = first_idle(found)
    while fault is not None:
        found = without_spare(found, fault)
        fault = first_idle(found)
    return found


def first_idle(circuit):
    good = out_tables(circuit)
    for fault in all_faults(circuit):
        if differing(good, out_tables(circuit, fault)) == 0:
            return fault
    return None


# With the fault put in, one wire serves for all that bear the same table. A gate with
# a leg that is always 0 or 1 bears a table that a wire ahead of it bears, or a fixed
# one, but for xor with 1: so no row that is made goes by a fix wire.
def without_spare(circuit, fault):
    values = tables(circuit, fault)
    ones = full_table(circuit.ins)
    rows = [("fix", 0), ("fix", 1)]
    bearers = {0: circuit.ins, ones: circuit.ins + 1}
    for wire, table in enumerate(input_tables(circuit.ins)):
        bearers[table] = wire
    for wire in needed(circuit):
        if values[wire] not in bearers:
            row = circuit.rows[wire - circuit.ins]
            legs = leg_values(row, wire, values, ones, fault)
            bearers[values[wire]] = circuit.ins + len(rows)
            rows.append(plain_row(row[0], legs, ones, bearers))
    return needed_alone(Circuit(circuit.ins, rows, [bearers[values[out]] for out in circuit.outs]))


def plain_row(kind, legs, ones, bearers):
    if kind == "xor" and ones in legs:
        return ("not", bearers[legs[0] ^ legs[1] ^ ones])
    return tuple([kind] + [bearers[leg] for leg in legs])


def needed_alone(circuit):
    places = {}
    for wire in range(circuit.ins):
        places[wire] = wire
    rows = []
    for wire in needed(circuit):
        if wire >= circuit.ins:
            places[wire] = circuit.ins + len(rows)
            rows.append(moved(circuit.rows[wire - circuit.ins], places))
    return Circuit(circuit.ins, rows, [places[out] for out in circuit.outs])


def moved(row, places):
    if row[0] == "fix":
        return row
    return tuple([row[0]] + [places[source] for source in leg_wires(row)])
