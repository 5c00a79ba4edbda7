"""A second, slow way to a wire's bit, and circuits to compare by."""

from stuckwire.circuits import Circuit

GATES = {
    "not": lambda a: 1 - a,
    "and": lambda a, b: 1 if a == 1 and b == 1 else 0,
    "or": lambda a, b: 1 if a == 1 or b == 1 else 0,
    "xor": lambda a, b: 1 if a != b else 0,
}


def bit(circuit, wire, given, fault, known):
    """Asks backwards from a wire; known keeps what was found on the way."""
    if wire in known:
        return known[wire]
    if fault is not None and fault[:2] == ("wire", wire):
        found = fault[2]
    elif wire < circuit.ins:
        found = given // 2 ** wire % 2
    else:
        row = circuit.rows[wire - circuit.ins]
        if row[0] == "fix":
            found = row[1]
        else:
            seen = []
            for leg, source in enumerate(row[1:]):
                if fault is not None and fault[:3] == ("leg", wire, leg):
                    seen.append(fault[3])
                else:
                    seen.append(bit(circuit, source, given, fault, known))
            found = GATES[row[0]](*seen)
    known[wire] = found
    return found


def bits(circuit, given, fault):
    known = {}
    return [bit(circuit, wire, given, fault, known) for wire in range(circuit.ins + len(circuit.rows))]


def every_fault(circuit):
    """Every fault of any wire and of any leg that is there."""
    faults = []
    for wire in range(circuit.ins + len(circuit.rows)):
        faults += [("wire", wire, 0), ("wire", wire, 1)]
        if wire >= circuit.ins:
            row = circuit.rows[wire - circuit.ins]
            legs = 0 if row[0] == "fix" else len(row) - 1
            faults += [("leg", wire, leg, stuck) for leg in range(legs) for stuck in (0, 1)]
    return faults


class Draw:
    """The same numbers at every run."""

    def __init__(self, start):
        self.state = start

    def below(self, bound):
        self.state = (self.state * 1103515245 + 12345) % 2 ** 31
        return self.state // 2 ** 8 % bound


def drawn(start, ins, rows, outs):
    """A circuit of this size; far wires, near wires and twice the same one among its rows."""
    draw = Draw(start)
    made = []
    for k in range(rows):
        wire = ins + k
        kind = ("fix", "not", "and", "or", "xor", "and", "or", "xor")[draw.below(8)]
        if wire == 0 or kind == "fix":
            made.append(("fix", draw.below(2)))
        elif kind == "not":
            made.append(("not", draw.below(wire)))
        else:
            first = wire - 1 - draw.below(min(wire, 3))
            second = first if draw.below(6) == 0 else draw.below(wire)
            made.append((kind, first, second))
    return Circuit(ins, made, [draw.below(ins + rows) for count in range(outs)])


def samples():
    """Circuits from the least to the greatest sizes."""
    sizes = [(0, 1, 1), (0, 60, 16), (1, 0, 1), (2, 7, 3), (3, 12, 16), (4, 20, 5), (5, 9, 1), (8, 0, 16)]
    return [drawn(7 + place, *size) for place, size in enumerate(sizes)]


def joined():
    """Not of and: the out's table is 0111."""
    return Circuit(2, [("and", 0, 1), ("not", 2)], [3])


def spare():
    """The and changes nothing at the out, which is input 0; wires 4 and 5 are not needed."""
    return Circuit(2, [("and", 0, 1), ("or", 0, 2), ("xor", 3, 1), ("fix", 1)], [3])


def twice():
    """One input turned round twice, side by side."""
    return Circuit(1, [("not", 0), ("not", 0)], [1, 2])


def fixed():
    """The least circuit: no inputs, and an out that is always 0."""
    return Circuit(0, [("fix", 0)], [0])


def without_outs():
    """Beyond the bounds: no fault at all. With an out there is always one that is not idle, the out's own."""
    return Circuit(2, [("and", 0, 1)], [])


def small():
    """Many small circuits: 0 to 4 inputs, 0 to 12 rows, 1 to 5 outs."""
    found = []
    for ins in range(5):
        for rows in range(13):
            for turn in range(4):
                if ins + rows > 0:
                    start = 7919 * ins + 613 * rows + 101 * turn
                    found.append(drawn(start, ins, rows, 1 + (ins + rows + turn) % 5))
    return found


def needed(circuit):
    """Out by out, and from each needed gate to the wires it goes by, until nothing is new."""
    found = set()
    ahead = list(circuit.outs)
    while ahead:
        wire = ahead.pop()
        if wire not in found:
            found.add(wire)
            if wire >= circuit.ins and circuit.rows[wire - circuit.ins][0] != "fix":
                ahead += circuit.rows[wire - circuit.ins][1:]
    return [wire for wire in range(circuit.ins + len(circuit.rows)) if wire in found]


def own_bit(circuit, wire):
    """The bit of a fix wire, None for all others."""
    if wire >= circuit.ins and circuit.rows[wire - circuit.ins][0] == "fix":
        return circuit.rows[wire - circuit.ins][1]
    return None


def told_faults(circuit):
    """Every fault but those of wires that are not needed and those that stick a fix wire at its own bit."""
    wires = needed(circuit)
    found = []
    for fault in every_fault(circuit):
        stuck = fault[1]
        if fault[0] == "leg":
            stuck = circuit.rows[fault[1] - circuit.ins][1 + fault[2]]
        if fault[1] in wires and own_bit(circuit, stuck) != fault[-1]:
            found.append(fault)
    return found


def out_bits(circuit, fault):
    """For each GIVEN in turn the outs' bits."""
    every = [bits(circuit, given, fault) for given in range(2 ** circuit.ins)]
    return [[seen[out] for out in circuit.outs] for seen in every]


def tellers(circuit, fault):
    """The GIVENs at which some out has another bit with the fault than without."""
    pairs = zip(out_bits(circuit, None), out_bits(circuit, fault))
    return [given for given, (good, bad) in enumerate(pairs) if good != bad]


def hold_own(case, ask):
    """Changing a list that is told changes neither one told before nor one told later."""
    first, second = ask(), ask()
    kept = list(first)
    first[0] = None
    first.append(9)
    case.assertEqual(second, kept)
    case.assertEqual(ask(), kept)
