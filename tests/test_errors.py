import inspect
import unittest

from wholetongue import errors

UNDER = (
    "Fault", "BadHouse", "BadRows", "NoFile", "NotMade", "NoDef", "NoRow", "BadCount", "Ended",
    "BadDepth", "NoName", "BadName", "Taken",
)


class ErrorsTest(unittest.TestCase):
    def test_whole_error_is_a_value_error(self):
        self.assertEqual(errors.WholeError.__bases__, (ValueError,))

    def test_all_stand_under_whole_error_and_none_under_another(self):
        for name in UNDER:
            self.assertEqual(getattr(errors, name).__bases__, (errors.WholeError,), name)

    def test_there_are_no_others(self):
        told = {name for name, _ in inspect.getmembers(errors, inspect.isclass)}
        self.assertEqual(told, {"WholeError", *UNDER})

    def test_they_are_defined_in_this_file(self):
        for name in ("WholeError", *UNDER):
            self.assertEqual(getattr(errors, name).__module__, "wholetongue.errors")

    def test_fields_of_a_fault(self):
        fault = errors.Fault("names", "mine", (3, 14), "twice")
        self.assertEqual(
            (fault.stage, fault.file, fault.place, fault.why), ("names", "mine", (3, 14), "twice")
        )

    def test_fields_of_a_fault_by_name(self):
        fault = errors.Fault(why="unknown", place=(1, 2), file="", stage="kinds")
        self.assertEqual((fault.stage, fault.file), ("kinds", ""))
        self.assertEqual((fault.place, fault.why), ((1, 2), "unknown"))

    def test_each_is_refused_by_its_own_name(self):
        for name in UNDER[1:]:
            refusal = getattr(errors, name)
            with self.assertRaises(refusal) as caught:
                raise refusal()
            for other in UNDER:
                self.assertEqual(
                    isinstance(caught.exception, getattr(errors, other)), name == other
                )


if __name__ == "__main__":
    unittest.main()
