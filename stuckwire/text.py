"""Circuits written as lines, and lines read as circuits."""

from stuckwire.circuits import Circuit
from stuckwire.errors import NoCircuit

MOST_INS = 8
MOST_ROWS = 60
MOST_OUTS = 16
MOST_FIGURES = 9
FIGURES = "0123456789"
NUMBERS_BEHIND = {"fix": 1, "not": 1, "and": 2, "or": 2, "xor": 2}


def shown(circuit):
    lines = [written("ins", [circuit.ins])]
    for row in circuit.rows:
        lines.append(written(row[0], row[1:]))
    lines.append(written("outs", circuit.outs))
    return lines


def written(word, numbers):
    return " ".join([word] + [str(number) for number in numbers])


def read(lines):
    if len(lines) < 2:
        raise NoCircuit("a circuit has at least a line of ins and one of outs")
    if len(lines) - 2 > MOST_ROWS:
        raise NoCircuit("too many rows")
    ins = read_ins(lines[0])
    rows = []
    for line in lines[1:-1]:
        rows.append(read_row(line, ins + len(rows)))
    return Circuit(ins, rows, read_outs(lines[-1], ins + len(rows)))


def read_ins(line):
    words = line.split(" ")
    if words[0] != "ins" or len(words) != 2:
        raise NoCircuit("the first line is not one of ins")
    return numbers_below(words[1:], MOST_INS + 1)[0]


def read_row(line, wire):
    words = line.split(" ")
    kind = words[0]
    if NUMBERS_BEHIND.get(kind) != len(words) - 1:
        raise NoCircuit("a line is no row of a circuit")
    bound = 2 if kind == "fix" else wire
    return tuple([kind] + numbers_below(words[1:], bound))


def read_outs(line, wires):
    words = line.split(" ")
    if words[0] != "outs":
        raise NoCircuit("the last line is not one of outs")
    if len(words) < 2 or len(words) - 1 > MOST_OUTS:
        raise NoCircuit("no out, or too many of them")
    return numbers_below(words[1:], wires)


def numbers_below(words, bound):
    numbers = []
    for word in words:
        if not is_number(word):
            raise NoCircuit("a word is no number")
        number = int(word)
        if number >= bound:
            raise NoCircuit("a number is too great for its place")
        numbers.append(number)
    return numbers


# int alone would take signs, blanks and noughts ahead, too. A blank too many in a
# line leaves an empty word, which is no number either.
def is_number(word):
    if word == "" or len(word) > MOST_FIGURES:
        return False
    if word[0] == "0" and word != "0":
        return False
    return all([sign in FIGURES for sign in word])
