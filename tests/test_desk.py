import unittest

import naive
from stuckwire.desk import Desk
from stuckwire.errors import NoCircuit, NoLine, NoWire
from stuckwire.text import shown

JOINED = "new ins 2 / and 0 1 / not 2 / outs 3"
SPARE = "new ins 2 / and 0 1 / or 0 2 / xor 3 1 / fix 1 / outs 3"
TWICE = "new ins 1 / not 0 / not 0 / outs 1 2"


def desk_with(line):
    desk = Desk()
    assert desk.say(line) == "ok"
    return desk


def new_line(circuit):
    return "new " + " / ".join(shown(circuit))


def fault_words(fault):
    return " ".join(str(number) for number in fault[1:])


def fault_line(fault, given):
    return ("stuck " if fault[0] == "wire" else "leg ") + fault_words(fault) + " " + str(given)


def faults_text(faults):
    return " / ".join("good" if fault is None else fault_words(fault) for fault in faults) or "none"


def bits_text(bits, between):
    return between.join(str(bit) for bit in bits)


def all_told(desk, circuit):
    """What the desk answers that has this circuit: each row of it shows up somewhere."""
    lines = ["faults", "idle"] + [f"give {given}" for given in range(2 ** circuit.ins)]
    for fault in naive.every_fault(circuit):
        lines += ["tells " + fault_words(fault), fault_line(fault, 0)]
    return [desk.say(line) for line in lines]


class Held(unittest.TestCase):

    def hold(self, desk, told):
        for line, answer in told:
            with self.subTest(line=line):
                self.assertEqual(desk.say(line), answer)

    def refuse(self, desk, refusal, lines):
        for line in lines:
            with self.subTest(line=line):
                with self.assertRaises(refusal) as caught:
                    desk.say(line)
                self.assertIs(type(caught.exception), refusal)


class Answers(Held):

    def test_at_first(self):
        self.hold(Desk(), [
            ("give 0", "0"), ("stuck 0 1 0", "1"), ("stuck 0 0 0", "0"), ("faults", "1"), ("idle", "none"),
            ("tells 0 1", "0"), ("tells 0 0", "none"), ("named 0 0", "good"), ("named 0 1", "0 1"), ("lean", "1"),
            ("give 0", "0"), ("faults", "1")])
        self.refuse(Desk(), NoWire, ["give 1", "stuck 1 0 0", "leg 0 0 0 0", "tells 1 0", "tells 0 0 0", "named 1 0",
                                     "named 0 00"])

    def test_new(self):
        self.hold(Desk(), [
            ("new ins 1 / outs 0", "ok"), ("give 1", "1"), (JOINED, "ok"), ("give 3", "0"), (SPARE, "ok"),
            ("give 3", "1"), ("new ins 0 / fix 1 / outs 0 0 0", "ok"), ("give 0", "1 1 1"), ("new ins 8 / outs 7 0",
            "ok"), ("give 128", "1 0"), ("give 255", "1 1"), ("give 127", "0 1")])

    def test_give(self):
        self.hold(desk_with(JOINED), [("give 0", "1"), ("give 1", "1"), ("give 2", "1"), ("give 3", "0")])
        self.hold(desk_with("new ins 2 / xor 0 1 / outs 2 0 2"), [("give 1", "1 1 1"), ("give 3", "0 1 0")])

    def test_stuck_and_leg(self):
        self.hold(desk_with(JOINED), [
            ("stuck 2 0 3", "1"), ("stuck 2 1 0", "0"), ("stuck 3 1 3", "1"), ("stuck 0 1 2", "0"), ("leg 2 0 1 2",
            "0"), ("leg 2 0 1 1", "1"), ("leg 2 1 1 1", "0"), ("leg 3 0 0 3", "1"), ("give 3", "0")])
        self.hold(desk_with(TWICE), [("stuck 0 0 1", "1 1"), ("leg 1 0 0 1", "1 0"), ("leg 2 0 0 1", "0 1")])

    def test_faults(self):
        self.hold(desk_with(JOINED), [("faults", "14")])
        self.hold(desk_with(SPARE), [("faults", "16")])
        self.hold(desk_with("new ins 1 / fix 1 / and 0 1 / outs 2"), [("faults", "8")])
        self.hold(desk_with("new ins 1 / outs 0"), [("faults", "2")])

    def test_idle(self):
        self.hold(desk_with(JOINED), [("idle", "none")])
        self.hold(desk_with(SPARE), [("idle", "1 0 / 1 1 / 2 0 / 2 0 0 / 2 1 0 / 2 1 1 / 3 1 0")])
        self.hold(desk_with("new ins 0 / fix 0 / not 0 / outs 1"), [("idle", "1 1")])

    def test_tells(self):
        self.hold(desk_with(JOINED), [
            ("tells 0 0", "3"), ("tells 0 1", "2"), ("tells 2 1", "0"), ("tells 2 0 0", "3"), ("tells 2 0 1", "2"),
            ("tells 2 1 1", "1"), ("tells 3 0 1", "0")])
        self.hold(desk_with(SPARE), [
            ("tells 1 0", "none"), ("tells 2 1 1", "none"), ("tells 2 0 1", "2"), ("tells 5 0", "none"),
            ("tells 4 0", "none"), ("tells 4 1 0", "none")])

    def test_named(self):
        self.hold(desk_with(JOINED), [
            ("named 3 1", "0 0 / 1 0 / 2 0 / 2 0 0 / 2 1 0 / 3 1 / 3 0 0"), ("named 1 1 2 1 3 0", "good"),
            ("named 3 0 2 1", "good / 1 1 / 2 1 1"), ("named 0 0 3 1", "none"), ("named 3 0 3 1", "none"),
            ("named 2 0 0 1 2 0", "0 1 / 2 0 1")])
        self.hold(desk_with(TWICE), [("named 0 01", "1 0 / 1 0 1"), ("named 0 10", "2 0 / 2 0 1"),
        ("named 0 11 1 00", "good")])

    def test_named_with_many_outs(self):
        self.hold(desk_with("new ins 1 / outs" + " 0" * 16), [
            ("named 1 1111111111111111", "good / 0 1"), ("named 0 0000000000000000 1 1111111111111111", "good"),
            ("named 0 0000000000000001", "none")])

    def test_named_with_many_pairs(self):
        pairs = " 1 1 2 1 3 0" * 100
        self.hold(desk_with(JOINED), [("named" + pairs, "good"), ("named" + pairs[:-1] + "1", "none")])

    def test_somewhat_beyond_the_bounds_nothing_is_refused(self):
        self.hold(desk_with(JOINED), [("named" + " 1 1 2 1 3 0" * 101, "good"), ("named" + " 3 1 0 0" * 400, "none")])

    def test_lean(self):
        self.hold(desk_with(SPARE), [
            ("lean", "0"), ("faults", "2"), ("idle", "none"), ("give 0", "0"), ("give 1", "1"), ("give 2", "0"),
            ("give 3", "1"), ("lean", "0")])
        desk = desk_with(SPARE)
        desk.say("lean")
        self.refuse(desk, NoWire, ["stuck 2 0 0", "tells 3 0", "leg 2 0 0 0", "give 4"])
        self.hold(desk, [(JOINED, "ok"), ("give 3", "0"), ("lean", "2"), ("give 3", "0"), ("faults", "14")])

    def test_answers_are_texts(self):
        desk = desk_with(SPARE)
        for line in (JOINED, "give 0", "stuck 0 0 0", "leg 2 0 0 0", "faults", "idle", "tells 0 0", "tells 2 0 0",
                     "named 0 1", "lean"):
            self.assertIs(type(desk.say(line)), str)

    def test_names_of_arguments(self):
        self.assertEqual(Desk().say(line="give 0"), "0")


class NoLines(Held):

    def test_other_words(self):
        self.refuse(desk_with(JOINED), NoLine, [
            "", "x", "old ins 1 / outs 0", "New ins 1 / outs 0", "GIVE 0", "give0", "gives 0", "0", "give,0", "/",
            "none", "good", "ok", "ins 1", "outs 0", "wire 0 0 0", "fault", "Faults", "idles", "tell 0 0",
            "name 0 0", "leans", "0 give", "percent 0", "~", "new/ins 1 / outs 0", "give\t0"])

    def test_too_few_words(self):
        self.refuse(desk_with(JOINED), NoLine, [
            "new", "give", "stuck", "stuck 0", "stuck 0 0", "leg", "leg 2", "leg 2 0", "leg 2 0 0", "tells", "tells 0",
            "named", "named 0", "named 0 1 3"])

    def test_too_many_words(self):
        self.refuse(desk_with(JOINED), NoLine, [
            "give 0 0", "give give 0", "stuck 0 0 0 0", "stuck stuck 0 0 0", "leg 2 0 0 0 0", "leg leg 2 0 0 0",
            "faults 0", "faults faults", "idle idle", "idle 0", "tells 2 0 0 0", "tells tells 0 0",
            "named named 0 1", "named 0 1 3 0 2", "lean lean", "lean 0", "give 0 /", "faults / idle"])

    def test_words_exchanged(self):
        self.refuse(desk_with(JOINED), NoLine, [
            "3 give", "0 stuck 0 0", "0 0 0 stuck", "2 leg 0 0 0", "1 tells 0", "1 named 0", "ins new 1 / outs 0",
            "stuck 2 0 1 0", "leg 2 1 0", "give 2 1 0", "tells 2 0 1 0", "named 2 0 1", "faults 0 0", "idle faults",
            "lean new", "lean ins 1 / outs 0", "give lean"])

    def test_a_word_in_the_place_of_a_number(self):
        self.refuse(desk_with(JOINED), NoLine, [
            "give x", "give -1", "give +1", "give 1.0", "give 0x1", "give 1_0", "give /", "give none", "stuck x 0 0",
            "stuck 0 x 0", "stuck 0 0 x", "leg x 0 0 0", "leg 2 x 0 0", "leg 2 0 x 0", "leg 2 0 0 x", "tells x 0",
            "tells 0 x", "tells -1 0", "tells x 0 0", "tells 2 x 0", "tells 2 0 x", "named x 1", "named 0 1 x 1",
            "named -1 1"])

    def test_blanks_too_many(self):
        for line in (JOINED, "give 0", "stuck 0 0 0", "leg 2 0 0 0", "faults", "idle", "tells 0 0", "tells 2 0 0",
                     "named 0 1 3 0", "lean"):
            words = line.split(" ")
            doubled = [" ".join(words[:place]) + "  " + " ".join(words[place:]) for place in range(1, len(words))]
            self.refuse(desk_with(JOINED), NoLine, [" " + line, line + " "] + doubled)
        self.refuse(Desk(), NoLine, [" ", "  ", "new ", "new  "])

    def test_noughts_ahead(self):
        self.refuse(desk_with(JOINED), NoLine, [
            "give 00", "give 03", "stuck 00 0 0", "stuck 02 0 0", "stuck 0 00 0", "stuck 0 01 0", "stuck 0 0 01",
            "leg 02 0 0 0", "leg 2 00 0 0", "leg 2 01 0 0", "leg 2 0 01 0", "leg 2 0 0 01", "tells 01 0",
            "tells 1 00", "tells 2 01 0", "tells 2 0 01", "named 00 1", "named 0 1 03 0"])

    def test_numbers_of_more_than_nine_figures(self):
        long = "1000000000"
        self.refuse(desk_with(JOINED), NoLine, [
            line.replace("N", long) for line in (
                "give N", "stuck N 0 0", "stuck 0 N 0", "stuck 0 0 N", "leg N 0 0 0", "leg 2 N 0 0", "leg 2 0 N 0",
                "leg 2 0 0 N", "tells N 0", "tells 0 N", "tells N 0 0", "tells 2 N 0", "tells 2 0 N", "named N 1",
                "named 0 1 N 1")])
        self.refuse(desk_with(JOINED), NoLine, ["give 0000000000", "give " + "9" * 400, "tells " + "1" * 2000 + " 0"])

    def test_bits_and_legs_beyond_one(self):
        self.refuse(desk_with(JOINED), NoLine, [
            "stuck 0 2 0", "stuck 0 999999999 0", "leg 2 2 0 0", "leg 2 0 2 0", "leg 2 10 0 0", "tells 0 2",
            "tells 2 2 0", "tells 2 0 2", "tells 2 0 11"])

    def test_other_signs_in_bits(self):
        self.refuse(desk_with(JOINED), NoLine, [
            "named 0 2", "named 0 x", "named 0 1x", "named 0 -1", "named 0 1 1 2", "named 0 1 1 /", "named 0 1 / 3 0",
            "named 0 12", "named 0 1,"])


class NoCircuits(Held):

    def test_lines_that_write_none(self):
        self.refuse(desk_with(JOINED), NoCircuit, [
            "new /", "new / /", "new x", "new new", "new 0", "new ins", "new ins 1", "new outs 0", "new ins 1 /",
            "new ins 1 / outs", "new ins 1 / outs 0 /", "new / ins 1 / outs 0", "new ins 1 / / outs 0",
            "new ins 1 / / / outs 0", "new ins 1 outs 0", "new ins 1 / outs 0 / outs 0", "new ins 9 / outs 0",
            "new ins 1 / outs 1", "new ins 0 / outs 0", "new ins 1 / not 1 / outs 0",
            "new ins 1 / not 0 0 / outs 0", "new ins 1 / and 0 / outs 0", "new ins 1 / nand 0 0 / outs 0",
            "new ins 1 / fix 2 / outs 0", "new outs 0 / ins 1", "new ins 1 // outs 0", "new ins 1/ outs 0",
            "new ins 1 /outs 0", "new new ins 1 / outs 0", "new give 0", "new ins 1 / outs x", "new ins x / outs 0",
            "new ins 1 / outs 0 -1"])

    def test_too_many_rows_and_outs(self):
        self.assertEqual(Desk().say("new ins 1 /" + " fix 0 /" * 60 + " outs" + " 0" * 16), "ok")
        self.refuse(Desk(), NoCircuit, [
            "new ins 1 /" + " fix 0 /" * 61 + " outs 0", "new ins 1 /" + " fix 0 /" * 200 + " outs 0",
            "new ins 1 / outs" + " 0" * 17])

    def test_numbers_behind_new_are_not_judged_as_a_line(self):
        self.refuse(desk_with(JOINED), NoCircuit, [
            "new ins 01 / outs 0", "new ins 1 / outs 00", "new ins 1 / fix 2 / outs 0", "new ins 1 / outs 0000000000",
            "new ins 1 / outs 1000000000", "new ins 1000000000 / outs 0"])

    def test_a_blank_too_many_comes_first(self):
        self.refuse(desk_with(JOINED), NoLine, [
            "new ins 9  / outs 0", "new  x", "new x ", " new x", "new ins 1 /  / outs 0", "new / "])


class NoWires(Held):

    def test_givens_that_are_not_there(self):
        self.refuse(desk_with(JOINED), NoWire, [
            "give 4", "give 5", "give 999999999", "stuck 0 0 4", "stuck 3 1 7", "leg 2 0 0 4", "leg 3 0 1 8",
            "named 4 1", "named 0 1 4 1", "named 4 1 0 1"])
        self.refuse(desk_with("new ins 8 / outs 0"), NoWire, ["give 256", "stuck 0 0 256", "named 256 0"])

    def test_wires_that_are_not_there(self):
        self.refuse(desk_with(JOINED), NoWire, [
            "stuck 4 0 0", "stuck 4 1 3", "stuck 999999999 0 0", "leg 4 0 0 0", "leg 4 1 1 0", "tells 4 0", "tells 4 1",
            "tells 4 0 0", "tells 999999999 1 1"])

    def test_legs_that_are_not_there(self):
        self.refuse(desk_with("new ins 2 / fix 1 / not 0 / and 0 1 / outs 4"), NoWire, [
            "leg 0 0 0 0", "leg 1 1 0 0", "leg 2 0 0 0", "leg 2 1 1 0", "leg 3 1 0 0", "tells 0 0 0", "tells 1 1 1",
            "tells 2 0 0", "tells 2 1 0", "tells 3 1 0"])

    def test_what_is_just_there(self):
        self.hold(desk_with("new ins 2 / fix 1 / not 0 / and 0 1 / outs 4"), [
            ("leg 3 0 1 3", "1"), ("leg 4 0 0 3", "0"), ("leg 4 1 1 1", "1"), ("stuck 4 0 3", "0"), ("stuck 0 0 0", "0"),
            ("tells 3 0 1", "none"), ("tells 4 1 1", "1"), ("tells 4 1", "0"), ("tells 2 0", "none"), ("give 3", "1"),
            ("named 3 1", "good / 0 1 / 1 1 / 4 1 / 4 0 1 / 4 1 1")])

    def test_bits_that_are_not_as_many_as_the_outs(self):
        self.refuse(desk_with(JOINED), NoWire, ["named 0 11", "named 0 0000000000", "named 0 1 1 11", "named 0 01 1 1"])
        self.refuse(desk_with(TWICE), NoWire, ["named 0 1", "named 0 111", "named 0 11 1 0"])

    def test_what_is_no_line_comes_first(self):
        self.refuse(desk_with(JOINED), NoLine, [
            "give 4 ", "give 04", "give 4 4", "stuck 4 2 0", "stuck 4 0 00", "stuck 4 0", "leg 4 2 0 0", "leg 0 0 2 0",
            "leg 0 0 0 x", "tells 4 2", "tells 4 x", "tells 0 2 0", "named 4 2", "named 4 1 0", "named 4 1 0 x",
            "named 0 11 1 2", "named 0 11 00 1", "named 0 11 1000000000 1"])


class Nothing(Held):

    REFUSED = ["", "new", "new ins 1 / outs 0 ", "new ins 1 / outs 1", "new ins 1 / fix 1 / outs", "give 4",
    "stuck 6 0 0",
               "leg 0 0 0 0", "tells 6 0", "named 4 1", "named 0 11", "lean ", "lean 0", "leans", "idle 0", "faults 1"]

    def test_a_refused_line_changes_nothing(self):
        for circuit in (naive.joined(), naive.spare()):
            desk = desk_with(new_line(circuit))
            before = all_told(desk, circuit)
            for line in self.REFUSED:
                with self.assertRaises((NoLine, NoCircuit, NoWire)):
                    desk.say(line)
                self.assertEqual(all_told(desk, circuit), before)

    def test_a_desk_at_first_keeps_its_circuit(self):
        desk = Desk()
        for line in self.REFUSED + ["new ins 2 / and 0 1 / outs 9"]:
            with self.assertRaises((NoLine, NoCircuit, NoWire)):
                desk.say(line)
        self.assertEqual(all_told(desk, naive.fixed()), all_told(Desk(), naive.fixed()))

    def test_a_line_that_only_asks_changes_nothing(self):
        desk = desk_with(SPARE)
        before = all_told(desk, naive.spare())
        for line in ("give 1", "stuck 0 1 0", "leg 2 0 1 2", "faults", "idle", "tells 0 0", "tells 2 0 1",
        "named 0 0 1 1"):
            self.assertEqual(desk.say(line), desk.say(line))
        self.assertEqual(all_told(desk, naive.spare()), before)

    def test_two_desks_side_by_side(self):
        one, other = Desk(), Desk()
        self.assertEqual(one.say(JOINED), "ok")
        self.assertEqual(other.say("give 0"), "0")
        self.assertEqual(other.say(SPARE), "ok")
        self.assertEqual([one.say("give 3"), other.say("give 3")], ["0", "1"])
        self.assertEqual([other.say("lean"), one.say("lean")], ["0", "2"])
        self.assertEqual([one.say("faults"), other.say("faults")], ["14", "2"])
        self.assertEqual(Desk().say("faults"), "1")


class Compared(Held):

    def hold_asked(self, desk, circuit):
        good = naive.out_bits(circuit, None)
        for given, bits in enumerate(good):
            self.assertEqual(desk.say(f"give {given}"), bits_text(bits, " "))
        for fault in naive.every_fault(circuit)[::3]:
            pages = naive.out_bits(circuit, fault)
            for given, bits in list(enumerate(pages))[::3]:
                self.assertEqual(desk.say(fault_line(fault, given)), bits_text(bits, " "))
            apart = [str(given) for given, bits in enumerate(pages) if bits != good[given]]
            self.assertEqual(desk.say("tells " + fault_words(fault)), (apart + ["none"])[0])

    def hold_listed(self, desk, circuit, draw):
        known = [None] + naive.told_faults(circuit)
        pages = [naive.out_bits(circuit, fault) for fault in known]
        self.assertEqual(desk.say("faults"), str(len(known) - 1))
        idle = [fault for fault, page in zip(known[1:], pages[1:]) if page == pages[0]]
        self.assertEqual(desk.say("idle"), faults_text(idle))
        for page in pages[::5]:
            tests = [draw.below(2 ** circuit.ins) for count in range(1 + draw.below(4))]
            told = [list(page[test]) for test in tests]
            told[0][0] = told[0][0] if draw.below(3) else 1 - told[0][0]
            line = "named " + " ".join(f"{test} {bits_text(bits, '')}" for test, bits in zip(tests, told))
            so = [fault for fault, other in zip(known, pages) if [other[test] for test in tests] == told]
            self.assertEqual(desk.say(line), faults_text(so))

    def hold_refused(self, desk, circuit):
        wires, givens = circuit.ins + len(circuit.rows), 2 ** circuit.ins
        lines = [f"give {givens}", f"stuck {wires} 0 0", f"stuck {wires - 1} 0 {givens}", f"tells {wires} 1",
                 f"leg {wires} 0 0 0", f"tells {wires} 1 0", f"named {givens} {'0' * len(circuit.outs)}",
                 f"named 0 0{'0' * len(circuit.outs)}"]
        there = {fault[1:3] for fault in naive.every_fault(circuit) if fault[0] == "leg"}
        missing = [(wire, leg) for wire in range(wires) for leg in (0, 1) if (wire, leg) not in there]
        self.refuse(desk, NoWire, lines + [f"tells {wire} {leg} 0" for wire, leg in missing])
        self.refuse(desk, NoWire, [f"leg {wire} {leg} 1 0" for wire, leg in missing])

    def hold_lean(self, desk, circuit):
        gives = [f"give {given}" for given in range(2 ** circuit.ins)]
        before = [desk.say(line) for line in gives]
        rows = int(desk.say("lean"))
        self.assertLessEqual(rows, len(circuit.rows))
        self.assertEqual([desk.say(line) for line in gives], before)
        self.assertEqual(desk.say("idle"), "none")
        self.refuse(desk, NoWire, [f"tells {circuit.ins + rows} 0"])
        if circuit.ins + rows > 0:
            desk.say(f"tells {circuit.ins + rows - 1} 0")

    def test_small_circuits(self):
        desk, draw = Desk(), naive.Draw(17)
        for circuit in naive.small():
            self.assertEqual(desk.say(new_line(circuit)), "ok")
            self.hold_asked(desk, circuit)
            self.hold_listed(desk, circuit, draw)
            self.hold_refused(desk, circuit)
            self.hold_lean(desk, circuit)

    def test_great_circuits(self):
        desk = Desk()
        for turn in range(6):
            circuit = naive.drawn(70 + turn, 8 - turn % 4, 60, 1 + 3 * turn)
            self.assertEqual(desk.say(new_line(circuit)), "ok")
            self.assertEqual(desk.say("faults"), str(len(naive.told_faults(circuit))))
            for given in range(0, 2 ** circuit.ins, 19):
                bits = naive.bits(circuit, given, None)
                self.assertEqual(desk.say(f"give {given}"), bits_text([bits[out] for out in circuit.outs], " "))
            self.hold_lean(desk, circuit)


if __name__ == "__main__":
    unittest.main()
