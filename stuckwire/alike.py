"""Faults beside one another: those that are alike, the idle and the hard ones."""

from stuckwire.circuits import out_tables
from stuckwire.faults import all_faults, telling, tellings


def groups(circuit):
    found = {}
    for fault in all_faults(circuit):
        found.setdefault(tuple(out_tables(circuit, fault)), []).append(fault)
    return list(found.values())


def idle(circuit):
    faults = all_faults(circuit)
    return [fault for fault, told in zip(faults, tellings(circuit, faults)) if told == 0]


def as_easy(circuit, one, other):
    return covers(telling(circuit, one), telling(circuit, other))


# Nothing covers the tellings of an idle fault, its own neither: the document asks
# for some GIVEN that tells the other one.
def covers(one_told, other_told):
    return other_told != 0 and (one_told | other_told) == one_told


def hard(circuit):
    faults = all_faults(circuit)
    every_told = tellings(circuit, faults)
    return [fault for fault, told in zip(faults, every_told) if is_least(told, every_told)]


def is_least(told, every_told):
    if told == 0:
        return False
    return all([other == told for other in every_told if covers(told, other)])
