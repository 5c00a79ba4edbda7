import unittest

import naive


class Small(unittest.TestCase):
    """The circuits that all is compared by hold what they are meant to hold."""

    def count(self, holds):
        return len([circuit for circuit in naive.small() if holds(circuit)])

    def idle(self, circuit):
        return [fault for fault in naive.told_faults(circuit) if not naive.tellers(circuit, fault)]

    def test_sizes(self):
        sizes = {(circuit.ins, len(circuit.rows)) for circuit in naive.small()}
        self.assertEqual(sizes, {(ins, rows) for ins in range(5) for rows in range(13)} - {(0, 0)})
        self.assertEqual({len(circuit.outs) for circuit in naive.small()}, {1, 2, 3, 4, 5})

    def test_sorts_of_rows(self):
        kinds = {"fix", "not", "and", "or", "xor"}
        self.assertGreater(self.count(lambda circuit: {row[0] for row in circuit.rows} == kinds), 30)

    def test_rows_that_are_not_needed(self):
        self.assertGreater(self.count(lambda circuit: naive.needed(circuit)[circuit.ins:] == []), 10)
        self.assertGreater(self.count(lambda circuit: len(naive.needed(circuit)) < len(circuit.rows)), 30)

    def test_one_wire_twice_in_a_row(self):
        self.assertGreater(self.count(lambda circuit: any(row[1:] == row[1:2] * 2 for row in circuit.rows)), 100)

    def test_one_out_more_than_once(self):
        self.assertGreater(self.count(lambda circuit: len(set(circuit.outs)) < len(circuit.outs)), 100)

    def test_idle_faults_some_and_none(self):
        self.assertGreater(self.count(lambda circuit: self.idle(circuit) == []), 80)
        self.assertGreater(self.count(lambda circuit: self.idle(circuit) != []), 100)

    def test_faults_are_never_all_idle_where_there_is_an_out(self):
        self.assertEqual(self.count(lambda circuit: self.idle(circuit) == naive.told_faults(circuit)), 0)


if __name__ == "__main__":
    unittest.main()
