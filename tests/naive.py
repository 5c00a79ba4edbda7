"""A second, slow way to a wire's bit, and circuits to compare by."""

from stuckwire.circuits import Circuit

GATES = {
    "not": lambda a: 1 - a,
    "and": lambda a, b: 1 if a == 1 and b == 1 else 0,
    "or": lambda a, b: 1 if a == 1 or b == 1 else 0,
    "xor": lambda a, b: 1 if a != b else 0,
}


def bit(circuit, wire, given, fault, known):
    """Asks backwards from a wire; known keeps what was found on the way."""
    if wire in known:
        return known[wire]
    if fault is not None and fault[:2] == ("wire", wire):
        found = fault[2]
    elif wire < circuit.ins:
        found = given // 2 ** wire % 2
    else:
        row = circuit.rows[wire - circuit.ins]
        if row[0] == "fix":
            found = row[1]
        else:
            seen = []
            for leg, source in enumerate(row[1:]):
                if fault is not None and fault[:3] == ("leg", wire, leg):
                    seen.append(fault[3])
                else:
                    seen.append(bit(circuit, source, given, fault, known))
            found = GATES[row[0]](*seen)
    known[wire] = found
    return found


def bits(circuit, given, fault):
    known = {}
    return [bit(circuit, wire, given, fault, known) for wire in range(circuit.ins + len(circuit.rows))]


def every_fault(circuit):
    """Every fault of any wire and of any leg that is there."""
    faults = []
    for wire in range(circuit.ins + len(circuit.rows)):
        faults += [("wire", wire, 0), ("wire", wire, 1)]
        if wire >= circuit.ins:
            row = circuit.rows[wire - circuit.ins]
            legs = 0 if row[0] == "fix" else len(row) - 1
            faults += [("leg", wire, leg, stuck) for leg in range(legs) for stuck in (0, 1)]
    return faults


class Draw:
    """The same numbers at every run."""

    def __init__(self, start):
        self.state = start

    def below(self, bound):
        self.state = (self.state * 1103515245 + 12345) % 2 ** 31
        return self.state // 2 ** 8 % bound


def drawn(start, ins, rows, outs):
    """A circuit of this size; far wires, near wires and twice the same one among its rows."""
    draw = Draw(start)
    made = []
    for k in range(rows):
        wire = ins + k
        kind = ("fix", "not", "and", "or", "xor", "and", "or", "xor")[draw.below(8)]
        if wire == 0 or kind == "fix":
            made.append(("fix", draw.below(2)))
        elif kind == "not":
            made.append(("not", draw.below(wire)))
        else:
            first = wire - 1 - draw.below(min(wire, 3))
            second = first if draw.below(6) == 0 else draw.below(wire)
            made.append((kind, first, second))
    return Circuit(ins, made, [draw.below(ins + rows) for count in range(outs)])


def samples():
    """Circuits from the least to the greatest sizes."""
    sizes = [(0, 1, 1), (0, 60, 16), (1, 0, 1), (2, 7, 3), (3, 12, 16), (4, 20, 5), (5, 9, 1), (8, 0, 16)]
    return [drawn(7 + place, *size) for place, size in enumerate(sizes)]
