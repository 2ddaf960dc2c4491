import unittest

from keepsgoing import errors


class Errors(unittest.TestCase):
    def test_tree(self):
        under = {
            ValueError: ["GoingError"],
            errors.GoingError: ["BadText", "NameFault", "CheckFault", "LimitFault", "NoLags"],
            errors.NameFault: ["Unknown", "Twice", "BadUse", "BadNumber"],
            errors.CheckFault: ["KindClash", "KindOpen", "ClockClash", "Ring", "Unsettled",
                                "Unset"],
            errors.LimitFault: ["TooLarge", "TooMany"],
        }
        for above, names in under.items():
            for name in names:
                self.assertEqual(getattr(errors, name).__bases__, (above,), name)

    def test_arguments_are_attributes(self):
        told = [
            ("BadText", ["at"]), ("Unknown", ["name"]), ("Twice", ["name"]), ("BadUse", ["name"]),
            ("BadNumber", ["value"]), ("KindClash", ["at"]), ("KindOpen", ["name"]),
            ("ClockClash", ["at"]), ("Ring", ["names"]), ("Unsettled", ["names", "truths"]),
            ("Unset", ["name"]), ("TooLarge", ["part"]), ("TooMany", ["part"]),
            ("NoLags", ["ring"]),
        ]
        for name, attributes in told:
            values = [(at, name) for at in range(len(attributes))]
            error = getattr(errors, name)(*values)
            for attribute, value in zip(attributes, values):
                self.assertEqual(getattr(error, attribute), value, name)
            self.assertIsInstance(error, errors.GoingError)
            self.assertIsInstance(str(error), str)


if __name__ == "__main__":
    unittest.main()
