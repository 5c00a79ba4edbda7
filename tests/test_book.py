import itertools
import unittest

import naive
from naive import fixed, joined, spare, twice, without_outs
from stuckwire.book import answers, named, parting, widened
from stuckwire.circuits import Circuit, out_tables
from stuckwire.faults import all_faults


# The faults of joined by the GIVENs that tell them.
AT_THREE = [("wire", 0, 0), ("wire", 1, 0), ("wire", 2, 0), ("leg", 2, 0, 0), ("leg", 2, 1, 0), ("wire", 3, 1),
            ("leg", 3, 0, 0)]
AT_TWO = [("wire", 0, 1), ("leg", 2, 0, 1)]
AT_ONE = [("wire", 1, 1), ("leg", 2, 1, 1)]
BELOW_THREE = [("wire", 2, 1), ("wire", 3, 0), ("leg", 3, 0, 1)]


def in_order(circuit, *groups):
    return [fault for fault in naive.told_faults(circuit) if any(fault in group for group in groups)]


class Answers(unittest.TestCase):

    def test_the_good_circuit(self):
        self.assertEqual(answers(joined(), [0, 1, 2, 3]), [[1], [1], [1], [0]])
        self.assertEqual(answers(joined(), [3], None), [[0]])
        self.assertEqual(answers(Circuit(2, [("xor", 0, 1)], [2, 0, 2]), [1, 3]), [[1, 1, 1], [0, 1, 0]])

    def test_with_a_fault(self):
        self.assertEqual(answers(joined(), [0, 3], ("wire", 2, 0)), [[1], [1]])
        self.assertEqual(answers(joined(), [2, 1, 0], ("leg", 2, 0, 1)), [[0], [1], [1]])
        self.assertEqual(answers(twice(), [0, 1], ("wire", 2, 1)), [[1, 1], [0, 1]])

    def test_a_fault_that_the_circuit_does_not_count(self):
        self.assertEqual(answers(spare(), [0, 1], ("wire", 5, 0)), [[0], [1]])
        self.assertEqual(answers(fixed(), [0], ("wire", 0, 0)), [[0]])

    def test_in_any_order_and_more_than_once(self):
        self.assertEqual(answers(joined(), [3, 0, 3, 3, 1]), [[0], [1], [0], [0], [1]])

    def test_how_many_there_may_be(self):
        self.assertEqual(answers(joined(), []), [])
        self.assertEqual(answers(joined(), [], ("wire", 0, 1)), [])
        self.assertEqual(answers(joined(), [3, 2, 1] * 100), [[0], [1], [1]] * 100)


class Named(unittest.TestCase):

    def test_the_good_circuit_is_ahead(self):
        self.assertEqual(named(joined(), [1, 2, 3], [[1], [1], [0]]), [None])
        self.assertEqual(named(joined(), [3], [[0]]), [None] + in_order(joined(), AT_TWO, AT_ONE, BELOW_THREE))

    def test_faults_in_order(self):
        self.assertEqual(named(joined(), [3], [[1]]), AT_THREE)
        self.assertEqual(named(joined(), [0], [[0]]), BELOW_THREE)
        self.assertEqual(named(joined(), [2], [[0]]), in_order(joined(), AT_TWO, BELOW_THREE))
        self.assertEqual(named(joined(), [2, 0], [[0], [1]]), AT_TWO)
        self.assertEqual(named(joined(), [1, 0], [[0], [1]]), AT_ONE)

    def test_idle_ones_go_with_the_good_circuit(self):
        self.assertEqual(named(spare(), [0, 1, 2, 3], [[0], [1], [0], [1]]), [
            None, ("wire", 1, 0), ("wire", 1, 1), ("wire", 2, 0), ("leg", 2, 0, 0), ("leg", 2, 1, 0), ("leg", 2, 1, 1),
            ("leg", 3, 1, 0)])

    def test_nothing_answers_so(self):
        self.assertEqual(named(joined(), [0, 3], [[0], [1]]), [])
        self.assertEqual(named(twice(), [0, 1], [[0, 1], [1, 0]]), [])

    def test_the_same_test_answered_in_two_ways(self):
        self.assertEqual(named(joined(), [3, 3], [[0], [1]]), [])
        self.assertEqual(named(joined(), [3, 3, 3], [[1], [1], [1]]), AT_THREE)

    def test_answers_in_another_order(self):
        self.assertEqual(named(joined(), [3, 1, 3, 2], [[0], [1], [0], [1]]), [None])
        self.assertEqual(named(joined(), [0, 2], [[1], [0]]), AT_TWO)

    def test_each_out_counts(self):
        self.assertEqual(named(twice(), [0], [[0, 1]]), [("wire", 1, 0), ("leg", 1, 0, 1)])
        self.assertEqual(named(twice(), [0], [[1, 0]]), [("wire", 2, 0), ("leg", 2, 0, 1)])

    def test_no_tests(self):
        for circuit in (joined(), spare(), twice(), fixed()):
            self.assertEqual(named(circuit, [], []), [None] + naive.told_faults(circuit))

    def test_many_tests(self):
        self.assertEqual(named(joined(), [1, 2, 3] * 100, [[1], [0], [0]] * 100), AT_TWO)
        self.assertEqual(named(joined(), [1, 2, 3] * 100, [[1], [0], [0]] * 99 + [[1], [0], [1]]), [])

    def test_no_inputs(self):
        self.assertEqual(named(fixed(), [0], [[0]]), [None])
        self.assertEqual(named(fixed(), [0], [[1]]), [("wire", 0, 1)])


class Parting(unittest.TestCase):

    def test_a_fault_and_the_good_circuit(self):
        self.assertEqual(parting(joined(), None, ("wire", 0, 0)), 3)
        self.assertEqual(parting(joined(), ("wire", 0, 0), None), 3)
        self.assertEqual(parting(joined(), ("wire", 3, 0), None), 0)

    def test_two_faults(self):
        self.assertEqual(parting(joined(), ("wire", 0, 1), ("wire", 1, 1)), 1)
        self.assertEqual(parting(joined(), ("wire", 0, 0), ("leg", 2, 0, 1)), 2)
        self.assertEqual(parting(joined(), ("wire", 3, 0), ("leg", 2, 1, 1)), 0)

    def test_the_same_given_tells_both_but_at_other_outs(self):
        self.assertEqual(parting(twice(), ("wire", 1, 1), ("wire", 2, 1)), 1)
        self.assertEqual(parting(twice(), ("wire", 1, 0), ("wire", 2, 0)), 0)

    def test_nothing_parts_them(self):
        self.assertIs(parting(joined(), None, None), None)
        self.assertIs(parting(joined(), ("wire", 0, 0), ("wire", 0, 0)), None)
        self.assertIs(parting(joined(), ("wire", 0, 0), ("leg", 3, 0, 0)), None)
        self.assertIs(parting(spare(), None, ("wire", 1, 0)), None)
        self.assertIs(parting(spare(), ("wire", 1, 0), ("leg", 3, 1, 0)), None)

    def test_faults_that_the_circuit_does_not_count(self):
        self.assertIs(parting(spare(), ("wire", 5, 0), None), None)
        self.assertEqual(parting(spare(), ("wire", 4, 1), ("wire", 3, 0)), 1)

    def test_the_greatest_given(self):
        rows = [("and", 0, 1)] + [("and", 8 + k, 2 + k) for k in range(6)]
        self.assertEqual(parting(Circuit(8, rows, [14]), None, ("wire", 14, 0)), 255)


class Book:
    """All that is answered, by a going-through of all GIVENs."""

    def __init__(self, circuit):
        self.known = [None] + naive.told_faults(circuit)
        self.pages = [naive.out_bits(circuit, fault) for fault in self.known]
        self.partings = {tuple(self.parting(one, other)) for one, other in itertools.combinations(self.pages, 2)} - {()}

    def parting(self, one, other):
        return [given for given, (first, second) in enumerate(zip(one, other)) if first != second]

    def named(self, tests, told):
        return [fault for fault, page in zip(self.known, self.pages) if [page[test] for test in tests] == told]


class Widened(unittest.TestCase):

    def hold(self, circuit, tests, partings):
        found = widened(circuit, tests)
        self.assertIs(type(found), list)
        self.assertLessEqual({type(test) for test in found}, {int})
        self.assertEqual(found, sorted(set(found)))
        self.assertTrue(all(0 <= test < 2 ** circuit.ins for test in found))
        self.assertLessEqual(set(tests), set(found))
        self.assertEqual([by for by in partings if not any(test in found for test in by)], [])
        alone = {tuple(test for test in by if test in found) for by in partings}
        self.assertEqual([test for test in found if test not in tests and (test,) not in alone], [])
        return found

    def test_only_one_row_would_do(self):
        self.assertEqual(widened(joined(), []), [1, 2, 3])
        self.assertEqual(widened(joined(), [2]), [1, 2, 3])
        self.assertEqual(widened(joined(), [1, 2, 3]), [1, 2, 3])
        self.assertEqual(widened(spare(), [1, 2]), [0, 1, 2, 3])
        self.assertEqual(widened(twice(), []), [0, 1])
        self.assertEqual(widened(fixed(), []), [0])

    def test_what_is_handed_in_is_held_needed_or_not(self):
        self.assertEqual(widened(joined(), [0]), [0, 1, 2, 3])
        self.assertEqual(widened(joined(), [0, 1, 2, 3]), [0, 1, 2, 3])
        self.assertEqual(widened(Circuit(3, [], [0]), list(range(8))), list(range(8)))
        self.assertEqual(widened(fixed(), [0]), [0])

    def test_new_ones_depend_on_what_is_there(self):
        circuit = Circuit(3, [], [0])
        partings = Book(circuit).partings
        self.assertEqual(len(self.hold(circuit, [], partings)), 2)
        self.assertEqual(len(self.hold(circuit, [0, 2, 4, 6], partings)), 5)
        self.assertEqual(self.hold(circuit, [4, 5], partings), [4, 5])

    def test_no_fault_at_all(self):
        self.assertEqual(widened(without_outs(), []), [])
        self.assertEqual(widened(without_outs(), [1, 2]), [1, 2])

    def test_small_circuits(self):
        draw = naive.Draw(11)
        for circuit in naive.small():
            partings = Book(circuit).partings
            every = list(range(2 ** circuit.ins))
            some = [sorted({draw.below(len(every)) for count in range(many)}) for many in (1, 2, 3, 6)]
            for tests in [[], every, every[:1], every[-1:], every[::2]] + some:
                self.hold(circuit, tests, partings)
            found = self.hold(circuit, [], partings)
            self.assertEqual(self.hold(circuit, found, partings), found)
            self.hold(circuit, found[1:], partings)

    def test_great_circuits(self):
        for turn in range(8):
            circuit = naive.drawn(20 + turn, 5 + turn % 4, 60, 1 + 5 * (turn % 4))
            every = 2 ** circuit.ins
            pages = {tuple(out_tables(circuit, fault)) for fault in [None] + all_faults(circuit)}
            for tests in ([], list(range(0, every, 7)), list(range(every))):
                found = widened(circuit, tests)
                self.assertLessEqual(set(tests), set(found))
                self.assertEqual(self.apart(pages, found), len(pages))
                for test in set(found) - set(tests):
                    self.assertLess(self.apart(pages, [other for other in found if other != test]), len(pages))

    def apart(self, pages, tests):
        marks = sum(2 ** test for test in tests)
        return len({tuple(table & marks for table in page) for page in pages})


class Compared(unittest.TestCase):

    def test_answers(self):
        draw = naive.Draw(5)
        for circuit in naive.small():
            tests = [draw.below(2 ** circuit.ins) for count in range(draw.below(12))]
            for fault in [None] + naive.every_fault(circuit)[::3]:
                bits = naive.out_bits(circuit, fault)
                self.assertEqual(answers(circuit, tests, fault), [bits[test] for test in tests])

    def test_named(self):
        draw = naive.Draw(6)
        for circuit in naive.small():
            book = Book(circuit)
            for fault, page in list(zip(book.known, book.pages))[::4]:
                tests = [draw.below(2 ** circuit.ins) for count in range(draw.below(5))]
                told = [list(page[test]) for test in tests]
                found = named(circuit, tests, told)
                self.assertEqual(found, book.named(tests, told))
                self.assertIn(fault, found)
                if told:
                    told[-1][0] = 1 - told[-1][0]
                    self.assertEqual(named(circuit, tests, told), book.named(tests, told))

    def test_parting(self):
        for circuit in naive.small()[::2]:
            every = [None] + naive.every_fault(circuit)
            pages = [(fault, naive.out_bits(circuit, fault)) for fault in every]
            for one, first in pages[::2]:
                for other, second in pages[::3]:
                    apart = [given for given in range(2 ** circuit.ins) if first[given] != second[given]]
                    self.assertEqual(parting(circuit, one, other), min(apart, default=None))


class Kept(unittest.TestCase):

    def test_kinds(self):
        for circuit in (joined(), spare(), twice()):
            told = answers(circuit, [1, 0, 1], ("wire", 0, 1))
            self.assertIs(type(told), list)
            self.assertEqual({type(bits) for bits in told}, {list})
            self.assertEqual({type(bit) for bits in told for bit in bits}, {int})
            found = named(circuit, [1, 0, 1], told)
            self.assertIs(type(found), list)
            self.assertEqual({type(fault) for fault in found if fault is not None}, {tuple})
            self.assertIs(type(parting(circuit, None, ("wire", 0, 1))), int)

    def test_names_of_arguments(self):
        self.assertEqual(answers(circuit=joined(), tests=[3], fault=("wire", 3, 1)), [[1]])
        self.assertEqual(named(circuit=joined(), tests=[0], told=[[0]]), BELOW_THREE)
        self.assertEqual(parting(circuit=joined(), one=None, other=("wire", 0, 1)), 2)
        self.assertEqual(widened(circuit=joined(), tests=[3]), [1, 2, 3])

    def test_somewhat_beyond_the_bounds_nothing_is_refused(self):
        tests = [3, 2] * 160
        self.assertEqual(named(joined(), tests, answers(joined(), tests, ("wire", 0, 1))), in_order(
            joined(), AT_TWO, BELOW_THREE))
        great = naive.drawn(8, 9, 64, 18)
        self.assertEqual(widened(great, widened(great, [])), widened(great, []))

    def test_what_is_handed_in_stays(self):
        circuit = spare()
        rows, outs, tests, told = list(circuit.rows), list(circuit.outs), [1, 2], [[1], [0]]
        answers(circuit, tests, ("wire", 0, 0))
        named(circuit, tests, told)
        parting(circuit, ("wire", 0, 0), ("leg", 2, 0, 1))
        widened(circuit, tests)
        self.assertEqual((tests, told), ([1, 2], [[1], [0]]))
        self.assertEqual((circuit.ins, circuit.rows, circuit.outs), (2, rows, outs))

    def test_lists_told_are_the_askers_own(self):
        circuit, tests = twice(), [0, 0, 1]
        every = [0, 1]
        for ask in (lambda: answers(circuit, tests), lambda: answers(circuit, tests)[0],
                    lambda: named(circuit, [0], [[1, 1]]), lambda: widened(circuit, every)):
            naive.hold_own(self, ask)
        self.assertEqual((tests, every), ([0, 0, 1], [0, 1]))
        first = answers(circuit, tests)
        first[0][0] = 7
        self.assertEqual(first, [[7, 1], [1, 1], [0, 0]])
        self.assertEqual(answers(circuit, tests), [[1, 1], [1, 1], [0, 0]])


if __name__ == "__main__":
    unittest.main()
