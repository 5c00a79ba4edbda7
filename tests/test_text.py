import unittest

import naive
from stuckwire.circuits import Circuit
from stuckwire.errors import NoCircuit
from stuckwire.text import read, shown

ROWS = [("fix", 0), ("fix", 1), ("not", 2), ("and", 0, 1), ("or", 5, 3), ("xor", 6, 6)]
LINES = ["ins 2", "fix 0", "fix 1", "not 2", "and 0 1", "or 5 3", "xor 6 6", "outs 7 0 7"]


def parts(circuit):
    return (circuit.ins, circuit.rows, circuit.outs)


class Shown(unittest.TestCase):

    def test_every_kind_of_row(self):
        self.assertEqual(shown(Circuit(2, ROWS, [7, 0, 7])), LINES)

    def test_least_circuits(self):
        self.assertEqual(shown(Circuit(1, [], [0])), ["ins 1", "outs 0"])
        self.assertEqual(shown(Circuit(0, [("fix", 0)], [0])), ["ins 0", "fix 0", "outs 0"])

    def test_numbers_of_two_figures(self):
        rows = [("not", 7), ("not", 8), ("not", 9), ("and", 10, 9)]
        self.assertEqual(shown(Circuit(8, rows, [10, 11]))[3:], ["not 9", "and 10 9", "outs 10 11"])

    def test_list_told_is_the_askers_own(self):
        circuit = Circuit(2, ROWS, [7, 0, 7])
        lines = shown(circuit)
        lines[0] = "ins 5"
        lines.append("")
        self.assertEqual(shown(circuit), LINES)
        self.assertEqual(parts(circuit), (2, ROWS, [7, 0, 7]))

    def test_somewhat_beyond_the_bounds_nothing_is_refused(self):
        lines = shown(Circuit(9, [("fix", 1)] * 61, [0] * 17))
        self.assertEqual(lines, ["ins 9"] + ["fix 1"] * 61 + ["outs" + " 0" * 17])

    def test_names_of_arguments(self):
        self.assertEqual(shown(circuit=read(lines=LINES)), LINES)


class Read(unittest.TestCase):

    def test_every_kind_of_row(self):
        circuit = read(LINES)
        self.assertIsInstance(circuit, Circuit)
        self.assertEqual(parts(circuit), (2, ROWS, [7, 0, 7]))
        self.assertEqual({type(row) for row in circuit.rows}, {tuple})
        self.assertIs(type(circuit.rows), list)
        self.assertIs(type(circuit.outs), list)

    def test_edges(self):
        self.assertEqual(parts(read(["ins 0", "fix 1", "outs 0"])), (0, [("fix", 1)], [0]))
        self.assertEqual(parts(read(["ins 8", "outs 7"])), (8, [], [7]))
        self.assertEqual(parts(read(["ins 1", "outs" + " 0" * 16])), (1, [], [0] * 16))
        sixty = read(["ins 8"] + ["not 7"] * 59 + ["and 66 0", "outs 67"])
        self.assertEqual(parts(sixty), (8, [("not", 7)] * 59 + [("and", 66, 0)], [67]))

    def test_wires_just_below_the_rows_own(self):
        lines = ["ins 1", "not 0", "and 1 1", "or 2 0", "xor 0 3", "outs 4"]
        rows = [("not", 0), ("and", 1, 1), ("or", 2, 0), ("xor", 0, 3)]
        self.assertEqual(parts(read(lines)), (1, rows, [4]))

    def test_what_is_shown_is_read_again(self):
        for circuit in naive.samples() + [naive.drawn(5, 8, 60, 16)]:
            again = read(shown(circuit))
            self.assertEqual(parts(again), parts(circuit))
            self.assertEqual(shown(again), shown(circuit))
            self.assertEqual({type(row) for row in again.rows} - {tuple}, set())
            numbers = [number for row in again.rows for number in row[1:]] + again.outs + [again.ins]
            self.assertEqual({type(number) for number in numbers}, {int})

    def test_lines_handed_in_stay_and_may_change_later(self):
        lines = list(LINES)
        circuit = read(lines)
        self.assertEqual(lines, LINES)
        lines[1] = "fix 1"
        lines.pop()
        self.assertEqual(shown(circuit), LINES)

    def test_refused_lines_stay(self):
        lines = ["ins 2", "and 0 1 ", "outs 2"]
        with self.assertRaises(NoCircuit):
            read(lines)
        self.assertEqual(lines, ["ins 2", "and 0 1 ", "outs 2"])


class Refused(unittest.TestCase):

    def refuse(self, *many):
        for lines in many:
            with self.subTest(lines=lines):
                with self.assertRaises(NoCircuit):
                    read(lines)

    def refuse_rows(self, *many):
        self.refuse(*[["ins 2", row, "outs 0"] for row in many])

    def test_no_line_or_one(self):
        self.refuse([], [""], ["ins 1"], ["outs 0"], ["ins 1 outs 0"])

    def test_first_line(self):
        self.refuse(["outs 0"] * 2, ["not 0", "outs 0"], ["", "ins 1", "outs 0"], ["fix 0", "ins 1", "outs 0"])
        for first in ("ins", "ins 1 1", "in 1", "INS 1", "Ins 1", "insert 1", "1", "1 ins", "ins x", "ins1", ""):
            self.refuse([first, "outs 0"])

    def test_ins_beyond_eight(self):
        for ins in ("9", "10", "80", "999999999"):
            self.refuse(["ins " + ins, "outs 0"])

    def test_outs_line_missing_or_not_last(self):
        self.refuse(["ins 1", "not 0"], ["ins 1", "ins 1"], ["ins 1", "outs 0", "not 0"])
        self.refuse(["ins 1", "outs 0", "outs 0"], ["ins 1", "outs 0", ""], ["ins 1", "outs 0", "not 0", "outs 0"])
        for last in ("out 0", "OUTS 0", "outs0", "0", "0 outs", ""):
            self.refuse(["ins 1", last])

    def test_number_of_outs(self):
        self.refuse(["ins 1", "outs"], ["ins 1", "outs "])
        self.refuse(["ins 1", "outs" + " 0" * 17], ["ins 1", "outs" + " 0" * 40])

    def test_out_that_is_no_wire(self):
        self.refuse(["ins 0", "outs 0"], ["ins 1", "outs 1"], ["ins 2", "not 0", "outs 3"])
        self.refuse(["ins 2", "not 0", "outs 0 3 1"], ["ins 1", "outs 999999999"], ["ins 1", "outs x"])

    def test_more_than_sixty_rows(self):
        self.refuse(["ins 1"] + ["not 0"] * 61 + ["outs 0"], ["ins 1"] + ["fix 0"] * 98 + ["outs 0"])

    def test_wire_not_less_than_the_rows_own(self):
        self.refuse_rows("not 2", "and 2 0", "and 0 2", "or 2 0", "or 0 2", "xor 2 0", "xor 0 2", "not 3", "or 0 60")
        self.refuse(["ins 0", "not 0", "outs 0"], ["ins 1", "not 2", "not 0", "outs 0"])
        self.refuse(["ins 1", "not 0", "xor 1 2", "outs 0"])

    def test_bit_beyond_one(self):
        self.refuse_rows("fix 2", "fix 9", "fix 10", "fix 999999999")
        self.refuse(["ins 8", "fix 2", "outs 0"])

    def test_unknown_words(self):
        self.refuse_rows("nand 0 1", "nor 0 1", "xnor 0 1", "buf 0", "AND 0 1", "Not 0", "ins 2", "outs 0", "0 and 1")
        self.refuse_rows("and a b", "and 0 b", "not not", "fix one", "/", "not /", "0", "andy 0 1", "an 0 1")

    def test_too_few_or_too_many_words(self):
        self.refuse_rows("fix", "not", "and", "or", "xor", "and 0", "or 0", "xor 0")
        self.refuse_rows("fix 0 0", "not 0 0", "not 0 1", "and 0 1 0", "or 0 1 0", "xor 0 1 1", "and 0 1 and")

    def test_blanks_too_many(self):
        for place in range(len(LINES)):
            line = LINES[place]
            for wrong in [" " + line, line + " ", line.replace(" ", "  "), line.replace(" ", "  ", 1)]:
                self.refuse(LINES[:place] + [wrong] + LINES[place + 1:])
        self.refuse_rows("and 0  1", "and  0 1", " ", "  ")

    def test_blanks_too_few(self):
        self.refuse_rows("not0", "and0 1", "and 01", "fix0")

    def test_empty_lines(self):
        for place in range(len(LINES) + 1):
            self.refuse(LINES[:place] + [""] + LINES[place:])

    def test_nought_ahead(self):
        self.refuse(["ins 01", "outs 0"], ["ins 00", "fix 0", "outs 0"], ["ins 1", "outs 00"], ["ins 2", "outs 0 01"])
        self.refuse_rows("fix 00", "fix 01", "not 00", "not 01", "and 01 1", "and 0 01", "or 00 0", "xor 0 000000001")

    def test_signs_in_numbers(self):
        self.refuse(["ins +1", "outs 0"], ["ins -0", "fix 0", "outs 0"], ["ins 1_0", "outs 0"], ["ins 0x1", "outs 0"])
        self.refuse(["ins 1", "outs +0"], ["ins 1", "outs -1"], ["ins 2", "outs 0_1"], ["ins 2", "outs 0,1"])
        self.refuse(["ins 1", "outs 0."], ["ins 1.0", "outs 0"], ["ins 8", "not 0", "not 0", "not 0", "outs 1_0"])
        self.refuse_rows("fix +1", "fix -0", "fix -1", "not +0", "not -1", "not _1", "not 1_", "and 0 +1", "and -1 0")
        self.refuse_rows("or 0 0_1", "xor 1e0 0", "xor (0) 1", "not 1;", "not 0b1", "not ~0")

    def test_numbers_of_nine_figures_and_more(self):
        for number in ("100000000", "999999999", "000000000", "1000000000", "9" * 90):
            self.refuse(["ins " + number, "outs 0"], ["ins 1", "outs " + number])
            self.refuse_rows("fix " + number, "not " + number, "and 0 " + number, "or " + number + " 0")

    def test_other_signs_are_no_blanks_and_no_figures(self):
        self.refuse(["ins\t1", "outs 0"], ["ins 1\n", "outs 0"], ["ins \u0661", "outs 0"], ["ins \u00b2", "outs 0"])


if __name__ == "__main__":
    unittest.main()
