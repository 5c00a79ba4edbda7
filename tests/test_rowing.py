import itertools
import unittest

import naive
from naive import fixed, joined, spare, without_outs
from stuckwire.circuits import Circuit
from stuckwire.errors import TooGreat
from stuckwire.faults import all_faults, telling
from stuckwire.rowing import fewest, tells_all, thinned


def exclusive():
    """Each two of the four GIVENs are all that tell some fault."""
    return Circuit(2, [("xor", 0, 1)], [2])


def marked(number):
    """The places of the bits that are 1."""
    return [given for given in range(number.bit_length()) if number >> given & 1]


def picked(givens):
    """An out for each of these GIVENs of three inputs, 1 there alone: nearly every GIVEN is asked for."""
    rows = [("not", 0), ("not", 1), ("not", 2)]
    outs = []
    for given in givens:
        legs = [k if given >> k & 1 else 3 + k for k in range(3)]
        rows += [("and", legs[0], legs[1]), ("and", 3 + len(rows), legs[2])]
        outs.append(2 + len(rows))
    return Circuit(3, rows, outs)


def to_tell(circuit):
    """For each fault that is not idle the GIVENs that tell it, by a going-through of all of them."""
    found = {fault: naive.tellers(circuit, fault) for fault in naive.told_faults(circuit)}
    return {fault: by for fault, by in found.items() if by}


def is_enough(told, tests):
    return all(any(given in tests for given in by) for by in told.values())


class TellsAll(unittest.TestCase):

    def test_every_needed_one_is_there(self):
        self.assertIs(tells_all(joined(), [1, 2, 3]), True)
        self.assertIs(tells_all(joined(), [0, 1, 2, 3]), True)
        self.assertIs(tells_all(spare(), [1, 2]), True)
        self.assertIs(tells_all(exclusive(), [0, 1, 3]), True)

    def test_one_is_missing(self):
        for tests in ([1, 2], [1, 3], [2, 3], [0, 1, 2], [0, 1, 3], [0, 2, 3], [0], [3]):
            self.assertIs(tells_all(joined(), tests), False)
        for tests in ([0, 1, 3], [0, 2, 3], [0, 3]):
            self.assertIs(tells_all(spare(), tests), False)
        for tests in itertools.combinations(range(4), 2):
            self.assertIs(tells_all(exclusive(), list(tests)), False)

    def test_in_any_order_and_more_than_once(self):
        self.assertIs(tells_all(joined(), [3, 1, 2]), True)
        self.assertIs(tells_all(joined(), [2, 2, 3, 2, 1, 1, 3]), True)
        self.assertIs(tells_all(joined(), [3, 1, 3, 1]), False)
        self.assertIs(tells_all(joined(), [0, 0, 1, 2] * 90), False)

    def test_the_empty_row(self):
        for circuit in (joined(), spare(), fixed(), Circuit(8, [], [3])):
            self.assertIs(tells_all(circuit, []), False)
        self.assertIs(tells_all(without_outs(), []), True)
        self.assertIs(tells_all(without_outs(), [2]), True)

    def test_no_inputs(self):
        self.assertIs(tells_all(fixed(), [0]), True)
        self.assertIs(tells_all(fixed(), [0, 0]), True)
        self.assertIs(tells_all(Circuit(0, [("fix", 1), ("not", 0)], [1]), [0]), True)

    def test_the_greatest_given(self):
        rows = [("and", 0, 1)] + [("and", 8 + k, 2 + k) for k in range(6)]
        circuit = Circuit(8, rows, [14])
        one_left_out = [255 - 2 ** k for k in range(8)]
        self.assertIs(tells_all(circuit, one_left_out + [255]), True)
        self.assertIs(tells_all(circuit, one_left_out + [254]), False)
        self.assertIs(tells_all(circuit, one_left_out[1:] + [255]), False)
        self.assertEqual(thinned(circuit), sorted(one_left_out + [255]))


class Thinned(unittest.TestCase):

    def hold(self, circuit, told):
        tests = thinned(circuit)
        self.assertIs(type(tests), list)
        self.assertLessEqual({type(test) for test in tests}, {int})
        self.assertEqual(tests, sorted(set(tests)))
        self.assertTrue(all(0 <= test < 2 ** circuit.ins for test in tests))
        self.assertTrue(is_enough(told, tests))
        for test in tests:
            self.assertFalse(is_enough(told, [other for other in tests if other != test]))
        return tests

    def test_only_one_row_would_do(self):
        self.assertEqual(thinned(joined()), [1, 2, 3])
        self.assertEqual(thinned(spare()), [1, 2])
        self.assertEqual(thinned(fixed()), [0])

    def test_any_three_of_four(self):
        self.assertEqual(len(self.hold(exclusive(), to_tell(exclusive()))), 3)

    def test_no_fault_at_all(self):
        self.assertEqual(thinned(without_outs()), [])

    def test_small_circuits(self):
        for circuit in naive.small():
            self.hold(circuit, to_tell(circuit))

    def test_great_circuits(self):
        for turn in range(12):
            circuit = naive.drawn(60 + turn, 5 + turn % 4, 60, 1 + 3 * (turn % 6))
            told = {fault: marked(telling(circuit, fault)) for fault in all_faults(circuit)}
            self.hold(circuit, {fault: by for fault, by in told.items() if by})


class Fewest(unittest.TestCase):

    def walk(self, told, paper, chosen, many):
        """Each step of a paper: its fault, and a way for each GIVEN that tells it."""
        self.assertIs(type(paper), tuple)
        self.assertEqual(len(paper), 2)
        self.assertIs(type(paper[0]), tuple)
        self.assertIs(type(paper[1]), list)
        self.assertIn(paper[0], told)
        by = told[paper[0]]
        self.assertEqual([given for given in by if given in chosen], [])
        if many == 0:
            self.assertEqual(paper[1], [])
            return
        self.assertEqual([(type(step), len(step)) for step in paper[1]], [(tuple, 2)] * len(by))
        self.assertEqual([step[0] for step in paper[1]], by)
        self.assertEqual({type(step[0]) for step in paper[1]}, {int})
        for given, inner in paper[1]:
            self.walk(told, inner, chosen + [given], many - 1)

    def hold(self, circuit):
        told = to_tell(circuit)
        found = fewest(circuit)
        self.assertIs(type(found), tuple)
        self.assertEqual(len(found), 2)
        tests, paper = found
        self.assertIs(type(tests), list)
        self.assertLessEqual({type(test) for test in tests}, {int})
        self.assertEqual(tests, sorted(set(tests)))
        self.assertTrue(all(0 <= test < 2 ** circuit.ins for test in tests))
        self.assertTrue(is_enough(told, tests))
        if tests:
            shorter = itertools.combinations(range(2 ** circuit.ins), len(tests) - 1)
            self.assertFalse(any(is_enough(told, fewer) for fewer in shorter))
            self.walk(told, paper, [], len(tests) - 1)
        else:
            self.assertIs(paper, None)
        return tests

    def test_one_test(self):
        self.assertEqual(fewest(fixed()), ([0], (("wire", 0, 1), [])))
        self.assertEqual(self.hold(Circuit(0, [("fix", 0), ("not", 0), ("or", 1, 0)], [2])), [0])

    def test_only_one_row_would_do(self):
        self.assertEqual(self.hold(joined()), [1, 2, 3])
        self.assertEqual(self.hold(spare()), [1, 2])
        self.assertEqual(fewest(spare())[1][0][0], "leg")

    def test_ways_that_part(self):
        self.assertEqual(len(self.hold(exclusive())), 3)
        self.assertEqual(len(self.hold(Circuit(3, [], [0, 1, 2]))), 2)
        self.assertEqual(len(self.hold(Circuit(3, [("xor", 0, 1), ("xor", 2, 3)], [4]))), 3)

    def test_where_a_thinned_row_may_be_longer(self):
        circuit = Circuit(3, [], [0, 1, 2])
        self.assertIs(tells_all(circuit, [3, 5, 6]), True)
        for fewer in ([3, 5], [3, 6], [5, 6]):
            self.assertIs(tells_all(circuit, fewer), False)
        self.assertEqual(len(fewest(circuit)[0]), 2)

    def test_rows_of_every_length(self):
        lengths = {len(self.hold(picked(marked(number)))) for number in range(1, 64, 2)}
        lengths |= {len(self.hold(naive.drawn(start, 3, 12 + start % 20, 1 + start % 3))) for start in range(60)}
        self.assertEqual(lengths, set(range(1, 9)))

    def test_no_fault_at_all(self):
        self.assertEqual(fewest(without_outs()), ([], None))
        self.assertEqual(fewest(Circuit(0, [], [])), ([], None))

    def test_small_circuits(self):
        few = [circuit for circuit in naive.small() if circuit.ins <= 3]
        self.assertGreater(len(few), 200)
        for circuit in few:
            self.hold(circuit)

    def test_circuits_of_many_rows(self):
        for turn in range(12):
            self.hold(naive.drawn(90 + turn, turn % 4, 60, 1 + 3 * (turn % 6)))

    def test_too_many_inputs(self):
        for ins in range(4, 9):
            for rows, outs in (([], [0]), ([("fix", 1)], [ins]), ([("and", 0, 1), ("xor", ins, 2)], [ins + 1, 3])):
                with self.assertRaises(TooGreat):
                    fewest(Circuit(ins, rows, outs))
        for ins in range(4):
            self.hold(Circuit(ins, [("fix", 1)], [ins]))

    def test_papers_stay_small(self):
        for circuit in naive.small():
            if circuit.ins == 3:
                self.assertLess(len(repr(fewest(circuit))), 20000)


class Compared(unittest.TestCase):

    def rows_to_try(self, circuit, draw):
        every = list(range(2 ** circuit.ins))
        enough = thinned(circuit)
        yield from ([], every, every[::-1], enough, enough[::-1] * 2, enough[1:], enough[:-1])
        for turn in range(12):
            yield [draw.below(len(every)) for count in range(turn * 2)]

    def test_tells_all(self):
        draw = naive.Draw(3)
        for circuit in naive.small():
            told = to_tell(circuit)
            for tests in self.rows_to_try(circuit, draw):
                self.assertIs(tells_all(circuit, tests), is_enough(told, tests))


class Kept(unittest.TestCase):

    def test_names_of_arguments(self):
        self.assertIs(tells_all(circuit=joined(), tests=[3, 2, 1]), True)
        self.assertEqual(thinned(circuit=joined()), [1, 2, 3])
        self.assertEqual(fewest(circuit=joined())[0], [1, 2, 3])

    def test_somewhat_beyond_the_bounds_nothing_is_refused(self):
        self.assertIn(tells_all(joined(), [1, 2, 3, 4, 300]), (True, False))
        great = naive.drawn(8, 9, 64, 18)
        self.assertIs(tells_all(great, thinned(great)), True)
        self.assertIs(tells_all(great, thinned(great)[1:]), False)

    def test_what_is_handed_in_stays(self):
        circuit = spare()
        rows, outs, tests = list(circuit.rows), list(circuit.outs), [3, 1, 2, 2]
        tells_all(circuit, tests)
        thinned(circuit)
        fewest(circuit)
        self.assertEqual(tests, [3, 1, 2, 2])
        self.assertEqual((circuit.ins, circuit.rows, circuit.outs), (2, rows, outs))

    def test_lists_told_are_the_askers_own(self):
        circuit = exclusive()
        naive.hold_own(self, lambda: thinned(circuit))
        naive.hold_own(self, lambda: fewest(circuit)[0])
        naive.hold_own(self, lambda: fewest(circuit)[1][1])
        naive.hold_own(self, lambda: fewest(circuit)[1][1][1][1][1])

    def test_lists_within_a_paper_are_not_one_another(self):
        def lists(paper):
            return [paper[1]] + [inner for step in paper[1] for inner in lists(step[1])]
        for circuit in (exclusive(), Circuit(3, [("xor", 0, 1), ("xor", 2, 3)], [4])):
            tests, paper = fewest(circuit)
            found = [tests] + lists(paper)
            self.assertEqual(len({id(one) for one in found}), len(found))


if __name__ == "__main__":
    unittest.main()
