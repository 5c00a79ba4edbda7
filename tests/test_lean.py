import unittest

import naive
from stuckwire.alike import idle
from stuckwire.circuits import Circuit, out_tables
from stuckwire.lean import lean
from stuckwire.text import read, shown


def absorbing(ins, steps):
    """Steps each of which holds legs that no GIVEN shows: x and (y or not x)."""
    rows = []
    last = 0
    for step in range(steps):
        rows.append(("not", last))
        rows.append(("or", ins + len(rows) - 1, 1 + step % (ins - 1)))
        rows.append(("and", last, ins + len(rows) - 1))
        rows.append(("xor", ins + len(rows) - 1, (step + 3) % ins))
        last = ins + len(rows) - 1
    return Circuit(ins, rows, [last])


class Held(unittest.TestCase):

    def hold_form(self, circuit, made):
        self.assertIsInstance(made, Circuit)
        self.assertIs(type(made.rows), list)
        self.assertIs(type(made.outs), list)
        self.assertEqual({type(row) for row in made.rows} - {tuple}, set())
        self.assertEqual(made.ins, circuit.ins)
        self.assertEqual(len(made.outs), len(circuit.outs))
        self.assertLessEqual(len(made.rows), len(circuit.rows))
        self.assertEqual(shown(read(shown(made))), shown(made))

    def hold(self, circuit):
        """All that is promised, by a going-through of all GIVENs."""
        made = lean(circuit)
        self.hold_form(circuit, made)
        good = naive.out_bits(circuit, None)
        self.assertEqual(naive.out_bits(made, None), good)
        self.assertEqual([fault for fault in naive.told_faults(made) if naive.out_bits(made, fault) == good], [])
        gates = [wire for wire in naive.needed(made) if wire >= made.ins]
        self.assertEqual(gates, list(range(made.ins, made.ins + len(made.rows))))
        return made


class Examples(Held):

    def test_a_gate_that_changes_nothing(self):
        made = self.hold(naive.spare())
        self.assertEqual(out_tables(made), [0b1010])

    def test_a_leg_that_changes_nothing(self):
        made = self.hold(Circuit(2, [("not", 0), ("or", 1, 2), ("and", 0, 3)], [4]))
        self.assertEqual(out_tables(made), [0b1000])

    def test_xor_with_a_leg_that_is_always_one(self):
        made = self.hold(Circuit(2, [("fix", 1), ("xor", 0, 2), ("xor", 2, 1), ("and", 3, 4)], [5]))
        self.assertEqual(out_tables(made), [0b0001])

    def test_each_gate_with_a_fix_wire(self):
        for kind in ("and", "or", "xor"):
            for bit in (0, 1):
                for legs in ((0, 1), (1, 0), (1, 1)):
                    self.hold(Circuit(1, [("fix", bit), (kind,) + legs], [2]))
                    self.hold(Circuit(1, [("fix", bit), (kind,) + legs, ("not", 2)], [3, 2]))

    def test_each_gate_with_one_wire_twice(self):
        for kind in ("and", "or", "xor"):
            self.hold(Circuit(1, [(kind, 0, 0)], [1]))
            self.hold(Circuit(2, [("xor", 0, 1), (kind, 2, 2), ("or", 3, 0)], [4, 3]))

    def test_what_is_lean_already(self):
        for rows, outs in (([("and", 0, 1), ("not", 2)], [3]), ([("xor", 0, 1)], [2, 0]), ([("or", 0, 1)], [2, 2]),
                           ([("fix", 0), ("not", 0)], [3, 2])):
            circuit = Circuit(2, rows, outs)
            self.assertEqual(idle(circuit), [])
            self.hold(circuit)
            self.hold(lean(circuit))

    def test_no_rows(self):
        for outs in ([0], [2, 0, 2]):
            made = self.hold(Circuit(3, [], outs))
            self.assertEqual((made.rows, made.outs), ([], outs))

    def test_outs_that_are_inputs(self):
        made = self.hold(Circuit(2, [("and", 0, 1), ("not", 2)], [1, 0]))
        self.assertEqual((made.rows, made.outs), ([], [1, 0]))

    def test_no_inputs(self):
        made = self.hold(Circuit(0, [("fix", 1), ("not", 0)], [1]))
        self.assertEqual((made.rows, made.outs), ([("fix", 0)], [0]))
        self.hold(Circuit(0, [("fix", 1), ("not", 0)], [1, 0, 1]))
        self.hold(Circuit(0, [("fix", 1), ("fix", 1), ("xor", 0, 1), ("or", 2, 1)], [3, 2]))

    def test_outs_that_are_all_fixed(self):
        made = self.hold(Circuit(1, [("not", 0), ("and", 0, 1)], [2]))
        self.assertEqual((made.rows, made.outs), ([("fix", 0)], [1]))
        made = self.hold(Circuit(2, [("not", 0), ("or", 0, 2)], [3, 3, 3]))
        self.assertEqual(out_tables(made), [15, 15, 15])
        self.hold(Circuit(8, [("xor", 3, 3), ("not", 8)], [8, 9, 8]))

    def test_outs_fixed_and_not_fixed(self):
        made = self.hold(Circuit(2, [("xor", 0, 0), ("or", 1, 2), ("not", 2)], [4, 3, 2, 0]))
        self.assertEqual(out_tables(made), [15, 12, 0, 10])

    def test_two_gates_with_the_same_table(self):
        self.hold(Circuit(2, [("and", 0, 1), ("and", 1, 0), ("or", 2, 3), ("xor", 2, 3)], [4, 5]))

    def test_an_idle_fault_that_shows_up_when_another_is_gone(self):
        self.hold(absorbing(2, 1))
        self.hold(absorbing(3, 3))
        self.hold(absorbing(4, 3))


class Many(Held):

    def test_small_circuits(self):
        for circuit in naive.small():
            self.hold(circuit)

    def test_small_circuits_made_lean_again(self):
        for circuit in naive.small()[::5]:
            self.hold(lean(circuit))

    def test_every_circuit_of_two_rows(self):
        """Each pair of rows over two inputs, each way of outs that holds the last one."""
        for first in self.rows_at(2):
            for second in self.rows_at(3):
                self.hold(Circuit(2, [first, second], [3]))
                self.hold(Circuit(2, [first, second], [2, 3, 0]))

    def rows_at(self, wire):
        pairs = [(kind, a, b) for kind in ("and", "or", "xor") for a in range(wire) for b in range(wire)]
        return [("fix", 0), ("fix", 1)] + [("not", a) for a in range(wire)] + pairs

    def test_great_circuits(self):
        great = [naive.drawn(40 + turn, 5 + turn % 4, 60, 1 + 3 * (turn % 6)) for turn in range(24)]
        for circuit in great + [absorbing(8, 15), absorbing(5, 15), naive.drawn(9, 0, 60, 16)]:
            made = lean(circuit)
            self.hold_form(circuit, made)
            self.assertEqual(out_tables(made), out_tables(circuit))
            self.assertEqual(idle(made), [])
            gates = [wire for wire in naive.needed(made) if wire >= made.ins]
            self.assertEqual(len(gates), len(made.rows))


class Kept(Held):

    def test_what_is_handed_in_stays(self):
        circuit = naive.spare()
        rows, outs = list(circuit.rows), list(circuit.outs)
        lean(circuit)
        self.assertEqual((circuit.ins, circuit.rows, circuit.outs), (2, rows, outs))

    def test_the_circuit_told_is_another_one(self):
        for circuit in (Circuit(2, [("and", 0, 1)], [2]), Circuit(1, [], [0])):
            first, second = lean(circuit), lean(circuit)
            for one, other in ((first, circuit), (first, second)):
                self.assertIsNot(one, other)
                self.assertIsNot(one.rows, other.rows)
                self.assertIsNot(one.outs, other.outs)

    def test_names_of_arguments(self):
        self.assertEqual(lean(circuit=Circuit(1, [], [0])).outs, [0])


if __name__ == "__main__":
    unittest.main()
