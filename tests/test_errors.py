from cornerdrifts import errors
from cornerdrifts.errors import BadPair, DriftError
from tests.samples import Case, any_values

NAMES = (
    "BadBook BadPair NoRegion BadStep BadShare Full Border BadPaper NoSide Leaves BadNumber BadPlace Corner Away "
    "BadTime BadTicks BadCorner BadAmount BadChances Loop BadTable Loads NothingToUndo NothingToRedo NoTrial "
    "BadJournal BadWords"
).split()


class Errors(Case):
    def test_all_names_stand_directly_below_drift_error(self):
        self.assertEqual(len(NAMES), 27)
        self.assertEqual(DriftError.__bases__, (ValueError,))
        for name in NAMES:
            with self.subTest(name):
                self.assertEqual(getattr(errors, name).__bases__, (DriftError,))
                self.assertEqual(getattr(errors, name).__name__, name)
                self.assertEqual(getattr(errors, name).__module__, "cornerdrifts.errors")

    def test_names_are_different_classes(self):
        self.assertEqual(len({getattr(errors, name) for name in NAMES}), 27)

    def test_each_keeps_any_value(self):
        for name in ["DriftError"] + NAMES:
            for value in any_values() + [0, -7, 10 ** 30, (1, 2), "inside"]:
                with self.subTest(name, value=value):
                    self.assertIs(getattr(errors, name)(value).value, value)

    def test_raised_and_caught(self):
        for name in ["DriftError"] + NAMES:
            value = [name]
            for wanted in (getattr(errors, name), DriftError, ValueError):
                with self.assertRaises(wanted) as caught:
                    raise getattr(errors, name)(value)
                self.assertIs(caught.exception.value, value)

    def test_one_is_not_caught_as_another(self):
        self.assertNotIsInstance(BadPair(1), errors.BadBook)
        self.assertNotIsInstance(DriftError(1), BadPair)

    def test_they_can_be_shown(self):
        self.assertIn("7", str(BadPair((7, 8))))
        self.assertIn("8", repr(BadPair((7, 8))))
