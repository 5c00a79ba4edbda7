"""Books of answers: what is answered to tests, who answers so, and tests that part all."""

from stuckwire.circuits import full_table, out_tables
from stuckwire.faults import all_faults, differing, least_given
from stuckwire.rowing import givens_in, thin


def answers(circuit, tests, fault=None):
    found = out_tables(circuit, fault)
    return [bits_at(found, test) for test in tests]


def bits_at(found, given):
    return [(table >> given) & 1 for table in found]


def named(circuit, tests, told):
    return [fault for fault in good_and_faults(circuit) if answers(circuit, tests, fault) == told]


def good_and_faults(circuit):
    return [None] + all_faults(circuit)


def parting(circuit, one, other):
    return least_given(differing(out_tables(circuit, one), out_tables(circuit, other)))


def widened(circuit, tests):
    every = full_table(circuit.ins)
    spare = [given for given in givens_in(every) if given not in tests]
    pages = pages_of(circuit)
    return givens_in(thin(every, spare, lambda marks: parts_all(circuit, pages, marks)))


# Those that answer alike at every GIVEN share a page: nothing could part them.
def pages_of(circuit):
    return sorted(set([side_by_side(circuit, out_tables(circuit, fault)) for fault in good_and_faults(circuit)]))


# All the outs' tables in one number, to be cut down to some tests in one step.
def side_by_side(circuit, found):
    page = 0
    for table in found:
        page = (page << (1 << circuit.ins)) | table
    return page


# No pair by pair, which would be long: all are parted where no two pages, cut down to
# the tests, have become the same.
def parts_all(circuit, pages, marks):
    tested = side_by_side(circuit, [marks for out in circuit.outs])
    return len(set([page & tested for page in pages])) == len(pages)
