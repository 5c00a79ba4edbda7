"""Rows of tests: whether one tells all, a thinned one, and a shortest one with its paper."""

from stuckwire.circuits import full_table
from stuckwire.errors import TooGreat
from stuckwire.faults import all_faults, tellings

FEW_INS = 3


def tells_all(circuit, tests):
    return hits_all(marks_of(tests), to_hit(circuit))


# Faults that the same GIVENs tell ask for the same tests, so the first stands for all.
def to_hit(circuit):
    found = {}
    faults = all_faults(circuit)
    for fault, told in zip(faults, tellings(circuit, faults)):
        if told != 0:
            found.setdefault(told, fault)
    return found


# A row as one number, like the tables, with a bit for each GIVEN that it holds.
def marks_of(tests):
    marks = 0
    for test in tests:
        marks = marks | (1 << test)
    return marks


def givens_in(marks):
    return [given for given in range(marks.bit_length()) if (marks >> given) & 1 == 1]


def hits_all(marks, wanted):
    return all([told & marks != 0 for told in wanted])


def thinned(circuit):
    wanted = to_hit(circuit)
    every = full_table(circuit.ins)
    return givens_in(thin(every, givens_in(every), lambda marks: hits_all(marks, wanted)))


# One walk is enough: where the rest was too little without a GIVEN, it is so all the
# more when it has become less.
def thin(marks, spare, is_enough):
    kept = marks
    for given in spare:
        fewer = kept ^ (1 << given)
        if is_enough(fewer):
            kept = fewer
    return kept


def fewest(circuit):
    if circuit.ins > FEW_INS:
        raise TooGreat("too many inputs to seek a shortest row")
    wanted = to_hit(circuit)
    tests = shortest(circuit.ins, wanted)
    if tests == []:
        return (tests, None)
    return (tests, paper_for(wanted, 0, len(tests) - 1))


def shortest(ins, wanted):
    rows = [givens_in(marks) for marks in range(full_table(ins) + 1) if hits_all(marks, wanted)]
    return min(rows, key=len)


# Of the faults not told so far the one that the fewest GIVENs tell is taken: by others
# a paper may branch far more.
def paper_for(wanted, chosen, many):
    left = [told for told in wanted if told & chosen == 0]
    narrow = min(left, key=lambda told: len(givens_in(told)))
    branches = []
    if many > 0:
        for given in givens_in(narrow):
            branches.append((given, paper_for(wanted, chosen | (1 << given), many - 1)))
    return (wanted[narrow], branches)
