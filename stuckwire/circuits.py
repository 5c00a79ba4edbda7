"""Circuits of gates, and what their wires bear with a fault or without."""


class Circuit:

    def __init__(self, ins, rows, outs):
        # Copies: the lists handed in may be changed later by whoever made them.
        self.ins = ins
        self.rows = [tuple(row) for row in rows]
        self.outs = list(outs)


def bits_for(circuit, given, fault=None):
    starts = [(given >> k) & 1 for k in range(circuit.ins)]
    return borne(circuit, starts, 1, fault)


def outs_for(circuit, given, fault=None):
    return at_outs(circuit, bits_for(circuit, given, fault))


def tables(circuit, fault=None):
    return borne(circuit, input_tables(circuit.ins), full_table(circuit.ins), fault)


def out_tables(circuit, fault=None):
    return at_outs(circuit, tables(circuit, fault))


def at_outs(circuit, values):
    return [values[out] for out in circuit.outs]


def full_table(ins):
    return (1 << (1 << ins)) - 1


# Each further input doubles the GIVENs: in the new upper half the inputs so far
# go as in the lower one, and the new input is 1 there and nowhere else.
def input_tables(ins):
    found = []
    for k in range(ins):
        width = 1 << k
        found = [table | (table << width) for table in found]
        found.append(full_table(k) << width)
    return found


# A table is a bit for each GIVEN side by side, so one walk serves single bits and
# whole tables; ones is what a wire bears that has 1 at every place asked for.
def borne(circuit, starts, ones, fault):
    values = []
    for start in starts:
        values.append(on_wire(start, len(values), ones, fault))
    for row in circuit.rows:
        wire = len(values)
        legs = leg_values(row, wire, values, ones, fault)
        values.append(on_wire(gate_value(row, legs, ones), wire, ones, fault))
    return values


def on_wire(value, wire, ones, fault):
    if fault is not None and fault[0] == "wire" and fault[1] == wire:
        return ones * fault[2]
    return value


def leg_values(row, wire, values, ones, fault):
    legs = [values[source] for source in leg_wires(row)]
    if fault is not None and fault[0] == "leg" and fault[1] == wire:
        legs[fault[2]] = ones * fault[3]
    return legs


def leg_wires(row):
    # The number of a fix row is a bit, not a wire that it goes by.
    if row[0] == "fix":
        return []
    return list(row[1:])


def gate_value(row, legs, ones):
    kind = row[0]
    if kind == "fix":
        return ones * row[1]
    if kind == "not":
        return ones ^ legs[0]
    if kind == "and":
        return legs[0] & legs[1]
    if kind == "or":
        return legs[0] | legs[1]
    return legs[0] ^ legs[1]
