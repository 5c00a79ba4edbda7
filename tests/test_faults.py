import unittest

import naive
from naive import joined, spare
from stuckwire.circuits import Circuit
from stuckwire.errors import NotTold
from stuckwire.faults import all_faults, least_telling, needed, telling, way_seen


def fixed():
    return Circuit(1, [("fix", 1), ("and", 0, 1), ("fix", 0), ("or", 2, 3), ("fix", 1)], [4])


class Needed(unittest.TestCase):

    def test_all_of_them(self):
        self.assertEqual(needed(joined()), [0, 1, 2, 3])

    def test_rows_that_are_not_needed(self):
        self.assertEqual(needed(spare()), [0, 1, 2, 3])
        self.assertEqual(needed(fixed()), [0, 1, 2, 3, 4])

    def test_inputs_that_are_not_needed(self):
        self.assertEqual(needed(Circuit(4, [("not", 2)], [4])), [2, 4])
        self.assertEqual(needed(Circuit(8, [], [5, 2, 5])), [2, 5])

    def test_a_gate_that_only_unneeded_gates_go_by(self):
        self.assertEqual(needed(Circuit(1, [("not", 0), ("not", 1), ("not", 2)], [0])), [0])

    def test_the_number_of_a_fix_row_is_no_wire(self):
        self.assertEqual(needed(Circuit(2, [("fix", 1)], [2])), [2])
        self.assertEqual(needed(Circuit(2, [("fix", 0), ("not", 2)], [3])), [2, 3])

    def test_no_inputs_and_one_wire_twice(self):
        self.assertEqual(needed(Circuit(0, [("fix", 1), ("fix", 0), ("xor", 0, 0)], [2, 2])), [0, 2])


class Faults(unittest.TestCase):

    def test_wires_and_legs_in_their_order(self):
        self.assertEqual(all_faults(joined()), [
            ("wire", 0, 0), ("wire", 0, 1), ("wire", 1, 0), ("wire", 1, 1), ("wire", 2, 0), ("wire", 2, 1),
            ("leg", 2, 0, 0), ("leg", 2, 0, 1), ("leg", 2, 1, 0), ("leg", 2, 1, 1),
            ("wire", 3, 0), ("wire", 3, 1), ("leg", 3, 0, 0), ("leg", 3, 0, 1)])

    def test_fix_wires_and_legs_at_them_have_the_other_bit_alone(self):
        self.assertEqual(all_faults(fixed()), [
            ("wire", 0, 0), ("wire", 0, 1), ("wire", 1, 0), ("wire", 2, 0), ("wire", 2, 1),
            ("leg", 2, 0, 0), ("leg", 2, 0, 1), ("leg", 2, 1, 0), ("wire", 3, 1), ("wire", 4, 0), ("wire", 4, 1),
            ("leg", 4, 0, 0), ("leg", 4, 0, 1), ("leg", 4, 1, 1)])

    def test_both_legs_at_one_wire(self):
        self.assertEqual(all_faults(Circuit(1, [("xor", 0, 0)], [1, 1])), [
            ("wire", 0, 0), ("wire", 0, 1), ("wire", 1, 0), ("wire", 1, 1),
            ("leg", 1, 0, 0), ("leg", 1, 0, 1), ("leg", 1, 1, 0), ("leg", 1, 1, 1)])

    def test_not_of_a_fix_wire_is_no_fix_wire(self):
        self.assertEqual(all_faults(Circuit(0, [("fix", 0), ("not", 0)], [1])), [
            ("wire", 0, 1), ("wire", 1, 0), ("wire", 1, 1), ("leg", 1, 0, 1)])

    def test_what_is_not_needed_has_none(self):
        self.assertEqual(all_faults(Circuit(3, [("and", 0, 1), ("fix", 0)], [2])), [("wire", 2, 0), ("wire", 2, 1)])
        self.assertEqual(all_faults(Circuit(3, [("and", 0, 1), ("fix", 0)], [4])), [("wire", 4, 1)])


class Telling(unittest.TestCase):

    def test_every_fault_of_a_circuit(self):
        expected = [8, 4, 8, 2, 8, 7, 8, 4, 8, 2, 7, 8, 8, 7]
        self.assertEqual([telling(joined(), fault) for fault in all_faults(joined())], expected)
        least = [3, 2, 3, 1, 3, 0, 3, 2, 3, 1, 0, 3, 3, 0]
        self.assertEqual([least_telling(joined(), fault) for fault in all_faults(joined())], least)

    def test_some_out_is_enough(self):
        circuit = Circuit(2, [("and", 0, 1), ("or", 0, 1)], [2, 3, 2])
        self.assertEqual(telling(circuit, ("wire", 2, 0)), 0b1000)
        self.assertEqual(telling(circuit, ("wire", 0, 1)), 0b0101)
        self.assertEqual(telling(circuit, ("wire", 0, 0)), 0b1010)
        self.assertEqual(least_telling(circuit, ("wire", 0, 0)), 1)

    def test_an_idle_fault(self):
        for fault in (("wire", 1, 0), ("wire", 1, 1), ("wire", 2, 0), ("leg", 2, 0, 0), ("leg", 3, 1, 0)):
            self.assertEqual(telling(spare(), fault), 0)
            self.assertIsNone(least_telling(spare(), fault))

    def test_wires_that_are_not_needed(self):
        for fault in (("wire", 4, 0), ("wire", 4, 1), ("leg", 4, 0, 1), ("leg", 4, 1, 0), ("wire", 5, 0)):
            self.assertEqual(telling(spare(), fault), 0)
            self.assertIsNone(least_telling(spare(), fault))

    def test_a_fix_wire_stuck_at_its_own_bit(self):
        for fault in (("wire", 1, 1), ("leg", 2, 1, 1), ("wire", 3, 0), ("leg", 4, 1, 0), ("wire", 5, 1)):
            self.assertEqual(telling(fixed(), fault), 0)
            self.assertIsNone(least_telling(fixed(), fault))

    def test_a_fix_wire_stuck_at_the_other_bit(self):
        self.assertEqual(telling(fixed(), ("wire", 1, 0)), 0b10)
        self.assertEqual(telling(fixed(), ("leg", 2, 1, 0)), 0b10)
        self.assertEqual(telling(fixed(), ("wire", 3, 1)), 0b01)
        self.assertEqual(least_telling(fixed(), ("wire", 3, 1)), 0)

    def test_no_inputs(self):
        circuit = Circuit(0, [("fix", 0)], [0])
        self.assertEqual(telling(circuit, ("wire", 0, 1)), 1)
        self.assertEqual(least_telling(circuit, ("wire", 0, 1)), 0)
        self.assertEqual(telling(circuit, ("wire", 0, 0)), 0)
        self.assertIsNone(least_telling(circuit, ("wire", 0, 0)))

    def test_eight_inputs(self):
        rows = [("and", 0, 1)] + [("and", 7 + k, k + 1) for k in range(1, 7)]
        circuit = Circuit(8, rows, [14])
        self.assertEqual(telling(circuit, ("wire", 7, 0)), 1 << 255)
        self.assertEqual(least_telling(circuit, ("wire", 7, 0)), 255)
        self.assertEqual(least_telling(circuit, ("leg", 14, 1, 1)), 127)
        self.assertEqual(telling(circuit, ("wire", 14, 1)), (1 << 255) - 1)


class Way(unittest.TestCase):

    def test_the_one_way_that_there_is(self):
        circuit = joined()
        self.assertEqual(way_seen(circuit, ("wire", 0, 0), 3), [0, 2, 3])
        self.assertEqual(way_seen(circuit, ("wire", 1, 1), 1), [1, 2, 3])
        self.assertEqual(way_seen(circuit, ("wire", 3, 0), 0), [3])
        self.assertEqual(way_seen(circuit, ("leg", 2, 1, 0), 3), [2, 3])
        self.assertEqual(way_seen(circuit, ("leg", 3, 0, 1), 1), [3])

    def test_past_a_branch_that_leads_to_no_out(self):
        circuit = Circuit(1, [("not", 0), ("not", 0), ("not", 1), ("fix", 0), ("and", 2, 4)], [5, 3])
        self.assertEqual(way_seen(circuit, ("wire", 0, 1), 0), [0, 1, 3])

    def test_one_of_two_ways(self):
        circuit = Circuit(1, [("not", 0), ("not", 0), ("and", 1, 2)], [3])
        self.assertIn(way_seen(circuit, ("wire", 0, 1), 0), ([0, 1, 3], [0, 2, 3]))

    def test_an_input_that_is_an_out(self):
        self.assertEqual(way_seen(Circuit(2, [], [0, 1]), ("wire", 1, 1), 1), [1])

    def test_no_inputs(self):
        self.assertEqual(way_seen(Circuit(0, [("fix", 0), ("not", 0)], [1]), ("wire", 0, 1), 0), [0, 1])

    def refuse(self, circuit, fault, given):
        with self.assertRaises(NotTold) as caught:
            way_seen(circuit, fault, given)
        self.assertIs(type(caught.exception), NotTold)

    def test_refused_where_the_given_does_not_tell_it(self):
        for given in (0, 1, 2):
            self.refuse(joined(), ("wire", 0, 0), given)
        self.refuse(joined(), ("leg", 3, 0, 1), 3)

    def test_refused_where_wires_differ_but_no_out(self):
        self.refuse(spare(), ("wire", 1, 0), 3)
        self.refuse(spare(), ("wire", 2, 0), 3)
        self.refuse(spare(), ("wire", 4, 0), 1)

    def test_refused_where_two_ways_undo_one_another(self):
        self.refuse(Circuit(1, [("not", 0), ("xor", 0, 1)], [2]), ("wire", 0, 1), 0)

    def test_refused_for_a_fix_wire_stuck_at_its_own_bit(self):
        self.refuse(fixed(), ("wire", 1, 1), 0)
        self.refuse(fixed(), ("leg", 4, 1, 0), 1)

    def test_refused_where_there_is_no_such_given(self):
        for given in (4, 7, 8 + 3, 256 + 3, 999999999, 2 ** 70 + 3):
            self.refuse(joined(), ("wire", 0, 0), given)
            self.refuse(joined(), ("wire", 3, 1), given)
        self.refuse(Circuit(0, [("fix", 0)], [0]), ("wire", 0, 1), 1)
        self.refuse(Circuit(8, [], [0]), ("wire", 0, 1), 256)


class Compared(unittest.TestCase):

    def hold_way(self, circuit, fault, given):
        good, bad = naive.bits(circuit, given, None), naive.bits(circuit, given, fault)
        way = way_seen(circuit, fault, given)
        self.assertIs(type(way), list)
        self.assertEqual({type(wire) for wire in way}, {int})
        self.assertEqual(way[0], fault[1])
        self.assertIn(way[-1], circuit.outs)
        for wire in way:
            self.assertNotEqual(good[wire], bad[wire])
        for ahead, wire in zip(way, way[1:]):
            self.assertGreaterEqual(wire, circuit.ins)
            row = circuit.rows[wire - circuit.ins]
            self.assertNotEqual(row[0], "fix")
            self.assertIn(ahead, row[1:])

    def test_the_small_circuits_have_what_is_to_be_tried(self):
        many = naive.small()
        self.assertGreaterEqual(len(many), 250)
        self.assertEqual({circuit.ins for circuit in many}, set(range(5)))
        self.assertEqual({len(circuit.rows) for circuit in many}, set(range(13)))
        rows = [row for circuit in many for row in circuit.rows]
        self.assertEqual({row[0] for row in rows}, {"fix", "not", "and", "or", "xor"})
        self.assertGreater(len([row for row in rows if len(row) == 3 and row[1] == row[2]]), 50)
        self.assertGreater(len([circuit for circuit in many if len(set(circuit.outs)) < len(circuit.outs)]), 50)
        wires = [circuit.ins + len(circuit.rows) for circuit in many]
        spared = [circuit for circuit, count in zip(many, wires) if len(naive.needed(circuit)) < count]
        self.assertGreater(len(spared), 50)

    def test_needed_and_faults(self):
        for circuit in naive.small():
            self.assertEqual(needed(circuit), naive.needed(circuit))
            self.assertEqual(all_faults(circuit), naive.told_faults(circuit))

    def test_telling_and_ways(self):
        for circuit in naive.small():
            for fault in naive.every_fault(circuit):
                tellers = naive.tellers(circuit, fault)
                told = telling(circuit, fault)
                self.assertIs(type(told), int)
                self.assertEqual(told, sum(2 ** given for given in tellers))
                self.assertEqual(least_telling(circuit, fault), tellers[0] if tellers else None)
                for given in range(2 ** circuit.ins):
                    if given in tellers:
                        self.hold_way(circuit, fault, given)
                    else:
                        self.assertRaises(NotTold, way_seen, circuit, fault, given)
                self.assertRaises(NotTold, way_seen, circuit, fault, 2 ** circuit.ins)

    def test_the_greatest_circuit(self):
        circuit = naive.drawn(3, 8, 60, 16)
        self.assertEqual(needed(circuit), naive.needed(circuit))
        self.assertEqual(all_faults(circuit), naive.told_faults(circuit))
        for fault in naive.every_fault(circuit)[::31]:
            tellers = naive.tellers(circuit, fault)
            self.assertEqual(telling(circuit, fault), sum(2 ** given for given in tellers))
            for given in tellers[::17]:
                self.hold_way(circuit, fault, given)


class Kept(unittest.TestCase):

    def test_kinds(self):
        self.assertIs(type(needed(joined())), list)
        self.assertEqual({type(wire) for wire in needed(joined())}, {int})
        self.assertIs(type(all_faults(fixed())), list)
        self.assertEqual({type(fault) for fault in all_faults(fixed())}, {tuple})
        self.assertEqual({type(number) for fault in all_faults(fixed()) for number in fault[1:]}, {int})
        self.assertIs(type(telling(joined(), ("wire", 0, 0))), int)
        self.assertIs(type(least_telling(joined(), ("wire", 0, 0))), int)

    def test_names_of_arguments(self):
        self.assertEqual(needed(circuit=joined()), [0, 1, 2, 3])
        self.assertEqual(len(all_faults(circuit=joined())), 14)
        self.assertEqual(telling(circuit=joined(), fault=("wire", 0, 0)), 8)
        self.assertEqual(least_telling(circuit=joined(), fault=("wire", 0, 0)), 3)
        self.assertEqual(way_seen(circuit=joined(), fault=("wire", 0, 0), given=3), [0, 2, 3])

    def test_what_is_handed_in_stays(self):
        circuit = spare()
        rows, outs = list(circuit.rows), list(circuit.outs)
        needed(circuit)
        all_faults(circuit)
        for fault in naive.every_fault(circuit):
            telling(circuit, fault)
            least_telling(circuit, fault)
        way_seen(circuit, ("wire", 0, 0), 1)
        self.assertRaises(NotTold, way_seen, circuit, ("wire", 1, 0), 3)
        self.assertEqual((circuit.ins, circuit.rows, circuit.outs), (2, rows, outs))

    def test_lists_told_are_the_askers_own(self):
        circuit = joined()
        for ask in (lambda: needed(circuit), lambda: all_faults(circuit), lambda: way_seen(circuit, ("wire", 0, 0), 3)):
            naive.hold_own(self, ask)


if __name__ == "__main__":
    unittest.main()
