import unittest

from probetables import errors

PLAIN = (
    "BadSize", "BadNumber", "BadKey", "BadRule", "BadFamily", "BadSlots", "NotThere", "AlreadyThere", "NotRight",
    "NotClean", "Full", "NotText", "InvalidText", "NothingToUndo",
)
WITH_INDEX = ("BadBook", "BadTable")


class Errors(unittest.TestCase):
    def test_base_is_a_direct_subclass_of_value_error(self):
        self.assertEqual(errors.ProbeError.__bases__, (ValueError,))

    def test_all_others_are_direct_subclasses_of_the_base(self):
        for name in PLAIN + WITH_INDEX:
            self.assertEqual(getattr(errors, name).__bases__, (errors.ProbeError,), name)
            self.assertEqual(getattr(errors, name).__module__, "probetables.errors")

    def test_plain_errors_have_no_fields(self):
        for name in PLAIN:
            self.assertEqual(vars(getattr(errors, name)()), {}, name)

    def test_index_is_the_only_field_of_the_others(self):
        for name in WITH_INDEX:
            for index in (None, 0, 3):
                self.assertEqual(vars(getattr(errors, name)(index)), {"index": index})


if __name__ == "__main__":
    unittest.main()
