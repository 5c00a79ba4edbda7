"""The lines that a desk is told, taken apart; what is none of them is refused with NoLine."""

from stuckwire.errors import NoLine
from stuckwire.text import is_number

# By a line's first word and how many stand behind it: which of these are numbers of any
# size, and which are bits or legs, 0 or 1 alone.
FORMS = {
    ("give", 1): ("number",),
    ("stuck", 3): ("number", "bit", "number"),
    ("leg", 4): ("number", "bit", "bit", "number"),
    ("faults", 0): (),
    ("idle", 0): (),
    ("tells", 2): ("number", "bit"),
    ("tells", 3): ("number", "bit", "bit"),
    ("lean", 0): (),
}


# A tuple of the word for what is asked and of what it is asked with. What stuck and leg
# ask is what give asks, but with a fault.
def taken_apart(line):
    words = line.split(" ")
    if "" in words:
        raise NoLine("no word, or a blank too many")
    if words[0] == "new":
        return ("new", circuit_lines(words[1:]))
    if words[0] == "named":
        return named_parts(words[1:])
    numbers = numbers_behind(words)
    if words[0] == "give":
        return ("give", None, numbers[0])
    if words[0] == "stuck" or words[0] == "leg":
        return ("give", fault_of(numbers[:-1]), numbers[-1])
    if words[0] == "tells":
        return ("tells", fault_of(numbers))
    return (words[0],)


def circuit_lines(words):
    if words == []:
        raise NoLine("nothing stands behind new")
    lines = [[]]
    for word in words:
        if word == "/":
            lines.append([])
        else:
            lines[-1].append(word)
    return [" ".join(line) for line in lines]


def named_parts(words):
    if words == [] or len(words) % 2 != 0:
        raise NoLine("behind named stand pairs")
    tests = [number_of(word) for word in words[::2]]
    return ("named", tests, [bits_of(word) for word in words[1::2]])


def numbers_behind(words):
    form = FORMS.get((words[0], len(words) - 1))
    if form is None:
        raise NoLine("no line has these words")
    numbers = []
    for word, kind in zip(words[1:], form):
        number = number_of(word)
        if kind == "bit" and number > 1:
            raise NoLine("a bit or a leg is beyond 1")
        numbers.append(number)
    return numbers


def number_of(word):
    if not is_number(word):
        raise NoLine("a word is no number")
    return int(word)


def bits_of(word):
    if not all([sign in "01" for sign in word]):
        raise NoLine("a word has other signs than 0 and 1")
    return [int(sign) for sign in word]


def fault_of(numbers):
    kind = "wire" if len(numbers) == 2 else "leg"
    return tuple([kind] + numbers)
