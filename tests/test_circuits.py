import unittest

import naive
from stuckwire.circuits import Circuit, bits_for, out_tables, outs_for, tables

EVERY_KIND = [("and", 0, 1), ("or", 0, 1), ("xor", 0, 1), ("not", 0), ("fix", 0), ("fix", 1)]


def every_kind():
    return Circuit(2, EVERY_KIND, [4, 2, 4, 0])


def gate(row):
    return Circuit(2, [row], [2])


class Made(unittest.TestCase):

    def test_fields(self):
        circuit = every_kind()
        self.assertEqual(circuit.ins, 2)
        self.assertEqual(circuit.rows, EVERY_KIND)
        self.assertEqual(circuit.outs, [4, 2, 4, 0])
        self.assertIs(type(circuit.rows), list)
        self.assertIs(type(circuit.outs), list)
        self.assertEqual({type(row) for row in circuit.rows}, {tuple})

    def test_names_of_arguments(self):
        circuit = Circuit(ins=1, rows=[("not", 0)], outs=[1])
        self.assertEqual(bits_for(circuit=circuit, given=1, fault=None), [1, 0])
        self.assertEqual(outs_for(circuit=circuit, given=1, fault=None), [0])
        self.assertEqual(tables(circuit=circuit, fault=None), [2, 1])
        self.assertEqual(out_tables(circuit=circuit, fault=None), [1])


class Good(unittest.TestCase):

    def test_every_kind_of_row(self):
        self.assertEqual(bits_for(every_kind(), 0), [0, 0, 0, 0, 0, 1, 0, 1])
        self.assertEqual(bits_for(every_kind(), 1), [1, 0, 0, 1, 1, 0, 0, 1])
        self.assertEqual(bits_for(every_kind(), 2), [0, 1, 0, 1, 1, 1, 0, 1])
        self.assertEqual(bits_for(every_kind(), 3), [1, 1, 1, 1, 0, 0, 0, 1])

    def test_outs_in_their_order_and_more_than_once(self):
        self.assertEqual(outs_for(every_kind(), 1), [1, 0, 1, 1])
        self.assertEqual(outs_for(every_kind(), 2), [1, 0, 1, 0])
        self.assertEqual(out_tables(every_kind()), [0b0110, 0b1000, 0b0110, 0b1010])

    def test_tables_of_every_kind_of_row(self):
        self.assertEqual(tables(every_kind()), [0b1010, 0b1100, 0b1000, 0b1110, 0b0110, 0b0101, 0b0000, 0b1111])

    def test_none_is_the_good_circuit(self):
        self.assertEqual(bits_for(every_kind(), 2, None), bits_for(every_kind(), 2))
        self.assertEqual(outs_for(every_kind(), 2, None), outs_for(every_kind(), 2))
        self.assertEqual(tables(every_kind(), None), tables(every_kind()))
        self.assertEqual(out_tables(every_kind(), None), out_tables(every_kind()))

    def test_a_wire_twice_in_one_row(self):
        self.assertEqual(tables(Circuit(1, [("and", 0, 0), ("or", 0, 0), ("xor", 0, 0)], [1])), [2, 2, 2, 0])

    def test_near_and_far_wires(self):
        circuit = Circuit(3, [("and", 0, 2), ("xor", 3, 0), ("or", 4, 1), ("not", 5), ("and", 6, 0)], [7])
        self.assertEqual(bits_for(circuit, 0b001), [1, 0, 0, 0, 1, 1, 0, 0])
        self.assertEqual(bits_for(circuit, 0b101), [1, 0, 1, 1, 0, 0, 1, 1])
        self.assertEqual(out_tables(circuit), [1 << 0b101])

    def test_no_inputs(self):
        circuit = Circuit(0, [("fix", 1), ("not", 0), ("xor", 0, 1)], [2, 1])
        self.assertEqual(bits_for(circuit, 0), [1, 0, 1])
        self.assertEqual(outs_for(circuit, 0), [1, 0])
        self.assertEqual(tables(circuit), [1, 0, 1])
        self.assertEqual(out_tables(circuit), [1, 0])

    def test_no_rows(self):
        circuit = Circuit(2, [], [1])
        self.assertEqual(bits_for(circuit, 2), [0, 1])
        self.assertEqual(outs_for(circuit, 2), [1])
        self.assertEqual(tables(circuit), [10, 12])
        self.assertEqual(out_tables(circuit), [12])

    def test_eight_inputs_sixty_rows_sixteen_outs(self):
        rows = [("xor", 0, 1)] + [("xor", 7 + k, k + 1 if k < 8 else 0) for k in range(1, 60)]
        circuit = Circuit(8, rows, list(range(52, 68)))
        for given in (0, 1, 2, 77, 128, 254, 255):
            self.assertEqual(bits_for(circuit, given), naive.bits(circuit, given, None))
        parity = tables(circuit)[14]
        self.assertEqual(parity, sum(1 << given for given in range(256) if bin(given).count("1") % 2))
        self.assertEqual(out_tables(circuit), tables(circuit)[52:])
        self.assertEqual(len(outs_for(circuit, 255)), 16)

    def test_somewhat_beyond_the_bounds_nothing_is_refused(self):
        circuit = Circuit(9, [("not", 8)] * 61, [69] * 17)
        self.assertEqual(outs_for(circuit, 256), [0] * 17)
        self.assertEqual(out_tables(circuit), [(1 << 256) - 1] * 17)


class Stuck(unittest.TestCase):

    def test_stuck_input(self):
        circuit = every_kind()
        self.assertEqual(bits_for(circuit, 2, ("wire", 0, 1)), [1, 1, 1, 1, 0, 0, 0, 1])
        self.assertEqual(bits_for(circuit, 3, ("wire", 0, 0)), [0, 1, 0, 1, 1, 1, 0, 1])
        self.assertEqual(outs_for(circuit, 2, ("wire", 0, 1)), [0, 1, 0, 1])
        self.assertEqual(tables(circuit, ("wire", 1, 1)), [10, 15, 10, 15, 5, 5, 0, 15])
        self.assertEqual(tables(circuit, ("wire", 1, 0)), [10, 0, 0, 10, 10, 5, 0, 15])

    def test_stuck_gate(self):
        circuit = Circuit(2, [("and", 0, 1), ("not", 2), ("or", 2, 0)], [3, 4])
        self.assertEqual(bits_for(circuit, 0, ("wire", 2, 1)), [0, 0, 1, 0, 1])
        self.assertEqual(bits_for(circuit, 3, ("wire", 2, 0)), [1, 1, 0, 1, 1])
        self.assertEqual(tables(circuit, ("wire", 2, 1)), [10, 12, 15, 0, 15])
        self.assertEqual(out_tables(circuit, ("wire", 2, 0)), [15, 10])

    def test_stuck_fix_row(self):
        circuit = Circuit(1, [("fix", 0), ("or", 0, 1)], [2])
        self.assertEqual(bits_for(circuit, 0, ("wire", 1, 1)), [0, 1, 1])
        self.assertEqual(tables(circuit, ("wire", 1, 1)), [2, 3, 3])
        self.assertEqual(tables(circuit, ("wire", 1, 0)), [2, 0, 2])

    def test_stuck_out(self):
        circuit = Circuit(2, [("xor", 0, 1)], [2, 0, 2])
        self.assertEqual(outs_for(circuit, 0, ("wire", 2, 1)), [1, 0, 1])
        self.assertEqual(outs_for(circuit, 1, ("wire", 2, 0)), [0, 1, 0])
        self.assertEqual(out_tables(circuit, ("wire", 2, 1)), [15, 10, 15])

    def test_an_input_that_is_an_out(self):
        circuit = Circuit(1, [], [0])
        self.assertEqual(outs_for(circuit, 1, ("wire", 0, 0)), [0])
        self.assertEqual(outs_for(circuit, 0, ("wire", 0, 1)), [1])
        self.assertEqual(out_tables(circuit, ("wire", 0, 1)), [3])

    def test_each_leg_of_each_gate(self):
        asked = [
            (("not", 0), 0, 0, 0b1111), (("not", 0), 0, 1, 0b0000),
            (("and", 0, 1), 0, 0, 0b0000), (("and", 0, 1), 0, 1, 0b1100),
            (("and", 0, 1), 1, 0, 0b0000), (("and", 0, 1), 1, 1, 0b1010),
            (("or", 0, 1), 0, 0, 0b1100), (("or", 0, 1), 0, 1, 0b1111),
            (("or", 0, 1), 1, 0, 0b1010), (("or", 0, 1), 1, 1, 0b1111),
            (("xor", 0, 1), 0, 0, 0b1100), (("xor", 0, 1), 0, 1, 0b0011),
            (("xor", 0, 1), 1, 0, 0b1010), (("xor", 0, 1), 1, 1, 0b0101),
        ]
        for row, leg, bit, table in asked:
            with self.subTest(row=row, leg=leg, bit=bit):
                fault = ("leg", 2, leg, bit)
                self.assertEqual(tables(gate(row), fault), [0b1010, 0b1100, table])
                self.assertEqual(out_tables(gate(row), fault), [table])
                for given in range(4):
                    expected = [given & 1, given >> 1, table >> given & 1]
                    self.assertEqual(bits_for(gate(row), given, fault), expected)
                    self.assertEqual(outs_for(gate(row), given, fault), expected[2:])

    def test_one_leg_of_two_at_the_same_wire(self):
        asked = [("and", 0, 0b00), ("and", 1, 0b10), ("or", 0, 0b10), ("or", 1, 0b11), ("xor", 0, 0b10), ("xor", 1, 0b01)]
        for kind, bit, table in asked:
            for leg in (0, 1):
                with self.subTest(kind=kind, leg=leg, bit=bit):
                    circuit = Circuit(1, [(kind, 0, 0)], [1, 0])
                    self.assertEqual(tables(circuit, ("leg", 1, leg, bit)), [0b10, table])
                    self.assertEqual(out_tables(circuit, ("leg", 1, leg, bit)), [table, 0b10])

    def test_a_stuck_leg_leaves_its_wire_and_other_gates_alone(self):
        circuit = Circuit(1, [("not", 0), ("not", 1), ("not", 1)], [2, 3, 1])
        self.assertEqual(tables(circuit, ("leg", 2, 0, 0)), [2, 1, 3, 2])
        self.assertEqual(out_tables(circuit, ("leg", 2, 0, 0)), [3, 2, 1])

    def test_a_stuck_leg_at_a_fix_wire(self):
        circuit = Circuit(1, [("fix", 1), ("and", 1, 0), ("or", 1, 0)], [2, 3])
        self.assertEqual(tables(circuit, ("leg", 2, 0, 0)), [2, 3, 0, 3])


class Compared(unittest.TestCase):

    def test_bits_and_tables_with_every_fault(self):
        for circuit in naive.samples():
            for fault in [None] + naive.every_fault(circuit):
                told = tables(circuit, fault)
                self.assertEqual(out_tables(circuit, fault), [told[out] for out in circuit.outs])
                expected = [0] * len(told)
                for given in range(2 ** circuit.ins):
                    bits = naive.bits(circuit, given, fault)
                    self.assertEqual(bits_for(circuit, given, fault), bits)
                    self.assertEqual(outs_for(circuit, given, fault), [bits[out] for out in circuit.outs])
                    expected = [table + bit * 2 ** given for table, bit in zip(expected, bits)]
                self.assertEqual(told, expected)

    def test_tables_agree_with_bits_in_the_greatest_circuit(self):
        circuit = naive.drawn(3, 8, 60, 16)
        faults = [None] + naive.every_fault(circuit)[::29]
        for fault in faults:
            told = tables(circuit, fault)
            for given in range(256):
                self.assertEqual(bits_for(circuit, given, fault), [table >> given & 1 for table in told])
                self.assertEqual(bits_for(circuit, given, fault), naive.bits(circuit, given, fault))

    def test_whole_numbers_in_lists_are_told(self):
        for fault in (None, ("wire", 2, 1), ("leg", 2, 0, 1)):
            for told in (bits_for(every_kind(), 1, fault), outs_for(every_kind(), 1, fault),
                         tables(every_kind(), fault), out_tables(every_kind(), fault)):
                self.assertIs(type(told), list)
                self.assertEqual({type(number) for number in told}, {int})


class Kept(unittest.TestCase):

    def test_what_is_handed_in_is_not_changed(self):
        rows = list(EVERY_KIND)
        outs = [4, 2, 4, 0]
        circuit = Circuit(2, rows, outs)
        for fault in [None] + naive.every_fault(circuit):
            bits_for(circuit, 1, fault)
            outs_for(circuit, 1, fault)
            tables(circuit, fault)
            out_tables(circuit, fault)
        self.assertEqual(rows, EVERY_KIND)
        self.assertEqual(outs, [4, 2, 4, 0])
        self.assertEqual((circuit.ins, circuit.rows, circuit.outs), (2, EVERY_KIND, [4, 2, 4, 0]))

    def test_changing_what_was_handed_in_changes_nothing(self):
        rows = [("and", 0, 1), ("not", 2)]
        outs = [3]
        circuit = Circuit(2, rows, outs)
        rows[0] = ("or", 0, 1)
        rows.append(("fix", 0))
        outs[0] = 0
        outs.append(1)
        self.assertEqual(circuit.rows, [("and", 0, 1), ("not", 2)])
        self.assertEqual(circuit.outs, [3])
        self.assertEqual(bits_for(circuit, 1), [1, 0, 0, 1])
        self.assertEqual(outs_for(circuit, 1), [1])
        self.assertEqual(tables(circuit), [10, 12, 8, 7])
        self.assertEqual(out_tables(circuit), [7])

    def test_changing_a_list_that_was_told_changes_nothing(self):
        circuit = every_kind()
        for fault in (None, ("wire", 0, 1), ("leg", 2, 1, 0)):
            for ask in (lambda: bits_for(circuit, 2, fault), lambda: outs_for(circuit, 2, fault),
                        lambda: tables(circuit, fault), lambda: out_tables(circuit, fault)):
                first = ask()
                kept = list(first)
                second = ask()
                first[0] = 99
                first.append(5)
                self.assertEqual(second, kept)
                self.assertEqual(ask(), kept)

    def test_asking_with_a_fault_leaves_the_circuit_good(self):
        circuit = every_kind()
        before = tables(circuit)
        for fault in naive.every_fault(circuit):
            tables(circuit, fault)
            bits_for(circuit, 3, fault)
        self.assertEqual(tables(circuit), before)


if __name__ == "__main__":
    unittest.main()
