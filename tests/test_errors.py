"""[4]: the classes of the refusals."""

import unittest

from roundsides import errors
from tests.support import REFUSALS, Case


class Classes(Case):
    def test_round_error_stands_straight_beneath_value_error(self):
        self.assertEqual(errors.RoundError.__bases__, (ValueError,))

    def test_each_refusal_stands_straight_beneath_round_error(self):
        self.assertEqual(len(REFUSALS), 18)
        for name in REFUSALS:
            refusal = getattr(errors, name)
            self.assertEqual(refusal.__name__, name)
            self.assertEqual(refusal.__bases__, (errors.RoundError,), name)

    def test_none_stands_beneath_another_one(self):
        for name in REFUSALS:
            for other in REFUSALS:
                beneath = issubclass(getattr(errors, name), getattr(errors, other))
                self.assertEqual(beneath, name == other, (name, other))

    def test_there_are_no_others(self):
        made = [name for name in vars(errors) if isinstance(getattr(errors, name), type)]
        self.assertEqual(sorted(made), sorted(REFUSALS + ("RoundError",)))

    def test_each_can_be_raised_and_taken_by_each_class_above_it(self):
        for name in REFUSALS:
            refusal = getattr(errors, name)
            for taken in (refusal, errors.RoundError, ValueError):
                with self.assertRaises(taken):
                    raise refusal("why")

    def test_they_have_no_fields(self):
        for name in REFUSALS + ("RoundError",):
            self.assertEqual(vars(getattr(errors, name)("why")), {}, name)


if __name__ == "__main__":
    unittest.main()
