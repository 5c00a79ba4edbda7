import unittest

from stuckwire.errors import NoCircuit, NoLine, NotTold, NoWire, StuckError, TooGreat


class Errors(unittest.TestCase):

    def test_a_stuck_error_is_a_value_error(self):
        self.assertEqual(StuckError.__bases__, (ValueError,))

    def test_each_refusal_stands_straight_under_stuck_error(self):
        for refusal in (NoCircuit, NotTold, TooGreat, NoLine, NoWire):
            self.assertEqual(refusal.__bases__, (StuckError,))

    def test_the_refusals_are_not_one_another(self):
        refusals = (NoCircuit, NotTold, TooGreat, NoLine, NoWire)
        for one in refusals:
            self.assertEqual([other for other in refusals if issubclass(one, other)], [one])


if __name__ == "__main__":
    unittest.main()
