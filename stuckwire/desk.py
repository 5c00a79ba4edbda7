"""A desk: it has a circuit, and answers the lines that it is told."""

from stuckwire.alike import idle
from stuckwire.book import named
from stuckwire.circuits import Circuit, outs_for
from stuckwire.errors import NoWire
from stuckwire.faults import all_faults, least_telling, sources_of
from stuckwire.lean import lean
from stuckwire.lines import taken_apart
from stuckwire.text import read


class Desk:

    def __init__(self):
        self.circuit = Circuit(0, [("fix", 0)], [0])

    def say(self, line):
        asked = taken_apart(line)
        if asked[0] == "new":
            self.circuit = read(asked[1])
            return "ok"
        if asked[0] == "lean":
            self.circuit = lean(self.circuit)
            return str(len(self.circuit.rows))
        return answer(self.circuit, asked)


def answer(circuit, asked):
    if asked[0] == "give":
        return outs_shown(circuit, asked[1], asked[2])
    if asked[0] == "tells":
        return least_shown(circuit, asked[1])
    if asked[0] == "named":
        return named_shown(circuit, asked[1], asked[2])
    if asked[0] == "idle":
        return faults_shown(idle(circuit))
    return str(len(all_faults(circuit)))


def outs_shown(circuit, fault, given):
    hold_fault(circuit, fault)
    hold_given(circuit, given)
    return " ".join([str(bit) for bit in outs_for(circuit, given, fault)])


def least_shown(circuit, fault):
    hold_fault(circuit, fault)
    given = least_telling(circuit, fault)
    return "none" if given is None else str(given)


def named_shown(circuit, tests, told):
    for given, bits in zip(tests, told):
        hold_given(circuit, given)
        if len(bits) != len(circuit.outs):
            raise NoWire("not as many bits as outs")
    return faults_shown(named(circuit, tests, told))


def hold_fault(circuit, fault):
    if fault is None:
        return
    if fault[1] >= circuit.ins + len(circuit.rows):
        raise NoWire("there is no such wire")
    if fault[0] == "leg" and fault[2] >= len(sources_of(circuit, fault[1])):
        raise NoWire("the wire has no such leg")


def hold_given(circuit, given):
    if given >> circuit.ins != 0:
        raise NoWire("there is no such GIVEN")


def faults_shown(faults):
    if faults == []:
        return "none"
    return " / ".join([fault_shown(fault) for fault in faults])


def fault_shown(fault):
    if fault is None:
        return "good"
    return " ".join([str(number) for number in fault[1:]])
