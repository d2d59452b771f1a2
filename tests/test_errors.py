"""Point 3: the errors and their attributes."""

import unittest

from manybuilds import errors

PLAIN = (
    "BadAct BadChosen BadCondition BadCosts BadCube BadEdit BadExpression BadFork BadForm BadHouse BadIndex "
    "BadInterface BadInterfaces BadLine BadLot BadLots BadMeasure BadMost BadMove BadNames BadNumber BadNumbers "
    "BadPart BadParts BadPatch BadPath BadRow BadSetting BadStep BadSwitch BadTable BadTerm BadText BadTold "
    "LastSwitch NotAlike NotEnough NotGiven NotRight NothingDone NothingUndone Unfit"
).split()
TOLD = {
    "BadRows": "at", "Caught": "path", "Clash": "path", "Clashing": "setting",
    "Mixed": "x", "NotTold": "setting", "TooMany": "most",
}


class TestErrors(unittest.TestCase):
    def test_build_error_is_a_value_error(self):
        self.assertEqual(errors.BuildError.__bases__, (ValueError,))

    def test_all_are_directly_below(self):
        for name in PLAIN + list(TOLD):
            self.assertEqual(getattr(errors, name).__bases__, (errors.BuildError,), name)

    def test_no_others(self):
        names = {name for name in vars(errors) if isinstance(getattr(errors, name), type)}
        self.assertEqual(names, set(PLAIN) | set(TOLD) | {"BuildError"})

    def test_plain_ones_take_a_message(self):
        for name in PLAIN + ["BuildError"]:
            self.assertEqual(str(getattr(errors, name)("why it is")), "why it is")

    def test_attributes_by_position_and_by_name(self):
        for name, attribute in TOLD.items():
            kind = getattr(errors, name)
            for value in (3, (1, 2), ("a",), "x"):
                self.assertIs(getattr(kind(value), attribute), value)
                self.assertIs(getattr(kind(**{attribute: value}), attribute), value)
            with self.assertRaises(TypeError):
                kind()


if __name__ == "__main__":
    unittest.main()
