import unittest

from othersknow import errors

# Each class of the interface: its base class and the names of its parameters.
CLASSES = {
    "InvalidAlphabet": ("TeamError", []),
    "InvalidStates": ("TeamError", ["given"]),
    "InvalidMove": ("TeamError", ["index"]),
    "InvalidState": ("TeamError", ["given"]),
    "InvalidWord": ("TeamError", ["given"]),
    "InvalidCount": ("TeamError", ["given"]),
    "InvalidIndex": ("TeamError", ["given"]),
    "InvalidGroup": ("TeamError", []),
    "InvalidReport": ("TeamError", []),
    "InvalidPartition": ("TeamError", []),
    "InvalidPairs": ("TeamError", []),
    "InvalidText": ("TeamError", []),
    "NoMachines": ("TeamError", []),
    "AlphabetsDiffer": ("TeamError", []),
    "TooMany": ("TeamError", ["most"]),
    "Refused": ("TeamError", []),
    "InvalidName": ("TeamError", ["name"]),
    "DuplicateName": ("TeamError", ["name"]),
    "CapacityExceeded": ("TeamError", ["limit"]),
    "InvalidLimit": ("TeamError", ["given"]),
    "InvalidCommand": ("TeamError", ["word"]),
    "ParseError": ("TeamError", ["line"]),
    "UnknownName": ("Missing", ["name"]),
    "NothingLeft": ("IndexError", []),
}

VALUES = [7, -3, 10 ** 31, "a", "", True, None, (1, 2), [1, [2, "b"]], ((), [])]


def made(name, value=5):
    return getattr(errors, name)(*[value for parameter in CLASSES[name][1]])


class Relations(unittest.TestCase):
    def test_the_classes_are_those_of_the_interface(self):
        found = {name for name, value in vars(errors).items() if isinstance(value, type)}
        self.assertEqual(found, {*CLASSES, "TeamError", "Missing"})
        for name in found:
            self.assertEqual(getattr(errors, name).__module__, "othersknow.errors")

    def test_each_class_has_its_base_class_and_no_other_one(self):
        bases = {"TeamError": errors.TeamError, "Missing": errors.Missing, "IndexError": IndexError}
        for name, (base, parameters) in CLASSES.items():
            with self.subTest(name):
                self.assertEqual(getattr(errors, name).__bases__, (bases[base],))
        self.assertEqual(errors.TeamError.__bases__, (ValueError,))
        self.assertEqual(errors.Missing.__bases__, (LookupError,))

    def test_an_error_is_caught_by_its_own_classes_alone(self):
        for name, (base, parameters) in CLASSES.items():
            error = made(name)
            for other in [*CLASSES, "TeamError", "Missing"]:
                with self.subTest(name, other=other):
                    self.assertEqual(isinstance(error, getattr(errors, other)), other in (name, base))

    def test_python_classes_catch_the_errors(self):
        self.assertIsInstance(made("InvalidWord"), ValueError)
        self.assertNotIsInstance(made("InvalidWord"), LookupError)
        self.assertIsInstance(made("UnknownName"), LookupError)
        self.assertNotIsInstance(made("UnknownName"), (ValueError, KeyError, IndexError))
        self.assertIsInstance(made("NothingLeft"), IndexError)
        self.assertNotIsInstance(made("NothingLeft"), ValueError)


class Attributes(unittest.TestCase):
    def test_the_tag_is_the_name_of_the_class(self):
        for name in CLASSES:
            with self.subTest(name):
                self.assertEqual(made(name).tag, name)
                self.assertIn("tag", vars(made(name)))

    def test_the_base_classes_have_no_tag(self):
        self.assertFalse(hasattr(errors.TeamError("why"), "tag"))
        self.assertFalse(hasattr(errors.Missing("why"), "tag"))

    def test_the_parameters_are_attributes(self):
        for name, (base, parameters) in CLASSES.items():
            for value in VALUES:
                with self.subTest(name, value=value):
                    self.assertEqual(vars(made(name, value)), {"tag": name, **{key: value for key in parameters}})

    def test_the_parameters_may_be_passed_by_name(self):
        for name, (base, parameters) in CLASSES.items():
            with self.subTest(name):
                error = getattr(errors, name)(**{key: 9 for key in parameters})
                self.assertEqual([getattr(error, key) for key in parameters], [9 for key in parameters])

    def test_each_class_takes_its_parameters_and_no_more(self):
        for name, (base, parameters) in CLASSES.items():
            with self.subTest(name):
                with self.assertRaises(TypeError):
                    getattr(errors, name)(*[1 for key in parameters], 2)
                if parameters:
                    with self.assertRaises(TypeError):
                        getattr(errors, name)()

    def test_each_class_can_be_raised(self):
        for name in CLASSES:
            with self.subTest(name), self.assertRaises(getattr(errors, name)) as caught:
                raise made(name)
            self.assertEqual(caught.exception.tag, name)

    def test_an_error_copies_the_lists_that_it_is_given(self):
        for name, (base, parameters) in CLASSES.items():
            for key in parameters:
                with self.subTest(name):
                    inner = [1]
                    value = [inner, (inner, 2)]
                    error = made(name, value)
                    inner.append(3)
                    value.append(4)
                    self.assertEqual(getattr(error, key), [[1], ([1], 2)])

    def test_an_error_keeps_deep_values(self):
        deep = ["a"]
        for depth in range(70):
            deep = [deep, depth]
        self.assertEqual(made("InvalidWord", deep).given, deep)


if __name__ == "__main__":
    unittest.main()
