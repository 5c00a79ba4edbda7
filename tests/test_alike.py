import unittest

import naive
from naive import joined, spare, twice
from stuckwire.alike import as_easy, groups, hard, idle
from stuckwire.circuits import Circuit


class Groups(unittest.TestCase):

    def test_one_out(self):
        self.assertEqual(groups(joined()), [
            [("wire", 0, 0), ("wire", 1, 0), ("wire", 2, 0), ("leg", 2, 0, 0), ("leg", 2, 1, 0), ("wire", 3, 1),
             ("leg", 3, 0, 0)],
            [("wire", 0, 1), ("leg", 2, 0, 1)],
            [("wire", 1, 1), ("leg", 2, 1, 1)],
            [("wire", 2, 1), ("wire", 3, 0), ("leg", 3, 0, 1)]])

    def test_the_same_givens_but_other_outs_are_not_alike(self):
        self.assertEqual(groups(twice()), [
            [("wire", 0, 0)], [("wire", 0, 1)],
            [("wire", 1, 0), ("leg", 1, 0, 1)], [("wire", 1, 1), ("leg", 1, 0, 0)],
            [("wire", 2, 0), ("leg", 2, 0, 1)], [("wire", 2, 1), ("leg", 2, 0, 0)]])

    def test_idle_faults_are_a_group_in_its_place(self):
        self.assertEqual(groups(spare()), [
            [("wire", 0, 0), ("wire", 3, 0)],
            [("wire", 0, 1), ("wire", 2, 1), ("wire", 3, 1), ("leg", 3, 0, 1), ("leg", 3, 1, 1)],
            [("wire", 1, 0), ("wire", 1, 1), ("wire", 2, 0), ("leg", 2, 0, 0), ("leg", 2, 1, 0), ("leg", 2, 1, 1),
             ("leg", 3, 1, 0)],
            [("leg", 2, 0, 1)], [("leg", 3, 0, 0)]])

    def test_no_rows_and_no_inputs(self):
        self.assertEqual(groups(Circuit(1, [], [0])), [[("wire", 0, 0)], [("wire", 0, 1)]])
        self.assertEqual(groups(Circuit(0, [("fix", 1)], [0])), [[("wire", 0, 0)]])


class Idle(unittest.TestCase):

    def test_none_of_them(self):
        self.assertEqual(idle(joined()), [])
        self.assertEqual(idle(twice()), [])
        self.assertEqual(idle(Circuit(0, [("fix", 1)], [0])), [])

    def test_some_of_them(self):
        self.assertEqual(idle(spare()), [
            ("wire", 1, 0), ("wire", 1, 1), ("wire", 2, 0), ("leg", 2, 0, 0), ("leg", 2, 1, 0), ("leg", 2, 1, 1),
            ("leg", 3, 1, 0)])

    def test_a_wire_twice_in_a_row(self):
        self.assertEqual(idle(Circuit(1, [("and", 0, 0)], [1])), [("leg", 1, 0, 1), ("leg", 1, 1, 1)])
        self.assertEqual(idle(Circuit(1, [("xor", 0, 0)], [1])), [("wire", 0, 0), ("wire", 0, 1), ("wire", 1, 0)])

    def test_a_gate_that_is_always_the_same(self):
        self.assertEqual(idle(Circuit(0, [("fix", 0), ("not", 0)], [1])), [("wire", 1, 1)])


class AsEasy(unittest.TestCase):

    def test_more_givens_tell_it(self):
        self.assertIs(as_easy(joined(), ("wire", 3, 0), ("wire", 0, 1)), True)
        self.assertIs(as_easy(joined(), ("wire", 0, 1), ("wire", 3, 0)), False)

    def test_other_givens_tell_it(self):
        self.assertIs(as_easy(joined(), ("wire", 0, 1), ("wire", 1, 1)), False)
        self.assertIs(as_easy(joined(), ("wire", 3, 0), ("wire", 3, 1)), False)

    def test_the_same_givens_tell_it(self):
        self.assertIs(as_easy(joined(), ("wire", 0, 0), ("leg", 3, 0, 0)), True)
        self.assertIs(as_easy(twice(), ("wire", 1, 0), ("wire", 2, 0)), True)
        self.assertIs(as_easy(twice(), ("wire", 2, 0), ("wire", 1, 0)), True)

    def test_as_itself(self):
        self.assertIs(as_easy(joined(), ("wire", 0, 0), ("wire", 0, 0)), True)

    def test_idle_ones(self):
        self.assertIs(as_easy(spare(), ("wire", 1, 0), ("wire", 1, 0)), False)
        self.assertIs(as_easy(spare(), ("wire", 1, 0), ("wire", 2, 0)), False)
        self.assertIs(as_easy(spare(), ("wire", 3, 0), ("wire", 1, 0)), False)
        self.assertIs(as_easy(spare(), ("wire", 1, 0), ("wire", 3, 0)), False)

    def test_faults_that_the_circuit_does_not_count(self):
        self.assertIs(as_easy(spare(), ("wire", 0, 0), ("wire", 4, 0)), False)
        self.assertIs(as_easy(spare(), ("wire", 4, 0), ("wire", 0, 0)), False)
        circuit = Circuit(1, [("fix", 1), ("and", 0, 1)], [2])
        self.assertIs(as_easy(circuit, ("wire", 1, 1), ("wire", 1, 0)), False)
        self.assertIs(as_easy(circuit, ("wire", 2, 0), ("leg", 2, 1, 1)), False)
        self.assertIs(as_easy(circuit, ("wire", 1, 1), ("wire", 1, 1)), False)


class Hard(unittest.TestCase):

    def test_without_those_that_are_easier(self):
        self.assertEqual(hard(joined()), [
            ("wire", 0, 0), ("wire", 0, 1), ("wire", 1, 0), ("wire", 1, 1), ("wire", 2, 0),
            ("leg", 2, 0, 0), ("leg", 2, 0, 1), ("leg", 2, 1, 0), ("leg", 2, 1, 1), ("wire", 3, 1), ("leg", 3, 0, 0)])

    def test_all_that_the_same_givens_tell(self):
        self.assertEqual(hard(twice()), [
            ("wire", 0, 0), ("wire", 0, 1), ("wire", 1, 0), ("wire", 1, 1), ("leg", 1, 0, 0), ("leg", 1, 0, 1),
            ("wire", 2, 0), ("wire", 2, 1), ("leg", 2, 0, 0), ("leg", 2, 0, 1)])

    def test_without_idle_ones(self):
        self.assertEqual(hard(spare()), [("leg", 2, 0, 1), ("leg", 3, 0, 0)])

    def test_no_inputs(self):
        circuit = Circuit(0, [("fix", 0), ("not", 0)], [1])
        self.assertEqual(hard(circuit), [("wire", 0, 1), ("wire", 1, 0), ("leg", 1, 0, 1)])


class Compared(unittest.TestCase):

    def test_groups_and_idle_ones(self):
        for circuit in naive.small():
            expected = []
            for fault in naive.told_faults(circuit):
                bits = naive.out_bits(circuit, fault)
                alike = [group for seen, group in expected if seen == bits]
                if alike:
                    alike[0].append(fault)
                else:
                    expected.append((bits, [fault]))
            self.assertEqual(groups(circuit), [group for bits, group in expected])
            good = naive.out_bits(circuit, None)
            idle_ones = [fault for fault in naive.told_faults(circuit) if naive.out_bits(circuit, fault) == good]
            self.assertEqual(idle(circuit), idle_ones)

    def test_hard_ones(self):
        for circuit in naive.small():
            told = [(fault, set(naive.tellers(circuit, fault))) for fault in naive.told_faults(circuit)]
            expected = []
            for fault, by in told:
                harder = [others for other, others in told if others and others < by]
                if by and not harder:
                    expected.append(fault)
            self.assertEqual(hard(circuit), expected)

    def test_as_easy(self):
        for circuit in naive.small()[::3]:
            told = [(fault, set(naive.tellers(circuit, fault))) for fault in naive.every_fault(circuit)]
            for one, by in told[::2]:
                for other, others in told[::3] + [(one, by)]:
                    self.assertIs(as_easy(circuit, one, other), bool(others) and others <= by)


class Kept(unittest.TestCase):

    def test_kinds(self):
        for circuit in (joined(), spare(), twice()):
            self.assertIs(type(groups(circuit)), list)
            self.assertEqual({type(group) for group in groups(circuit)}, {list})
            self.assertIs(type(idle(circuit)), list)
            self.assertIs(type(hard(circuit)), list)
            told = idle(circuit) + hard(circuit) + [fault for group in groups(circuit) for fault in group]
            self.assertEqual({type(fault) for fault in told}, {tuple})
            self.assertEqual({type(number) for fault in told for number in fault[1:]}, {int})

    def test_names_of_arguments(self):
        self.assertEqual(len(groups(circuit=joined())), 4)
        self.assertEqual(idle(circuit=joined()), [])
        self.assertEqual(len(hard(circuit=joined())), 11)
        self.assertIs(as_easy(circuit=joined(), one=("wire", 3, 0), other=("wire", 0, 1)), True)

    def test_what_is_handed_in_stays(self):
        circuit = spare()
        rows, outs = list(circuit.rows), list(circuit.outs)
        groups(circuit)
        idle(circuit)
        hard(circuit)
        as_easy(circuit, ("wire", 0, 0), ("leg", 2, 0, 1))
        self.assertEqual((circuit.ins, circuit.rows, circuit.outs), (2, rows, outs))

    def test_lists_told_are_the_askers_own(self):
        circuit = spare()
        for ask in (lambda: groups(circuit), lambda: idle(circuit), lambda: hard(circuit)):
            naive.hold_own(self, ask)
        first = groups(circuit)
        first[1].append(9)
        first[2].clear()
        self.assertEqual([len(group) for group in groups(circuit)], [2, 5, 7, 1, 1])


if __name__ == "__main__":
    unittest.main()
