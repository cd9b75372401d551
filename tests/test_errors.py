"""The error classes: what they stand under, and what they keep."""

import pickle
import unittest

from gathermill import errors

ONE_FIELD = (
    ("NoPlace", LookupError, "place"),
    ("NoName", LookupError, "name"),
    ("BadText", ValueError, "line"),
    ("Twice", ValueError, "name"),
    ("Misplaced", ValueError, "word"),
)
ALL = ("NoPlace", "NoName", "BadText", "Twice", "Misplaced", "Refused", "Fault", "CanNot", "Unfit")


class ErrorsTest(unittest.TestCase):
    def test_bases(self):
        for name in ALL:
            wanted = LookupError if name in ("NoPlace", "NoName") else ValueError
            self.assertEqual(getattr(errors, name).__bases__, (wanted,), name)

    def test_no_other_classes(self):
        found = {name for name, own in vars(errors).items() if isinstance(own, type)}
        self.assertEqual(found, set(ALL))

    def test_one_field_by_place_and_by_name(self):
        for name, base, field in ONE_FIELD:
            own = getattr(errors, name)
            for kept in (own("x"), own(**{field: "x"})):
                self.assertIsInstance(kept, base)
                self.assertEqual(vars(kept), {field: "x"})

    def test_two_fields_by_place_and_by_name(self):
        for own in (errors.Refused, errors.Fault):
            for kept in (own(3, 4), own(code=3, place=4), own(3, place=4), own(place=4, code=3)):
                self.assertEqual(vars(kept), {"code": 3, "place": 4})

    def test_no_field(self):
        for own in (errors.CanNot, errors.Unfit):
            self.assertEqual(vars(own()), {})

    def test_too_few_values_are_refused(self):
        for name, values in (("NoPlace", ()), ("BadText", ()), ("Refused", (1,)), ("Fault", (1,))):
            with self.assertRaises(TypeError):
                getattr(errors, name)(*values)

    def test_errors_can_be_carried_over(self):
        for kept in (errors.NoName(name="x"), errors.Fault(code=1, place=2), errors.Unfit()):
            again = pickle.loads(pickle.dumps(kept))
            self.assertEqual((type(again), vars(again)), (type(kept), vars(kept)))


if __name__ == "__main__":
    unittest.main()
