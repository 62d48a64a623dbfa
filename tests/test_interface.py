"""What is listed must stand in its file, under its name, with its parameters."""

import inspect
import unittest

from othersknow import machines, teams

# For each name the parameters, as they are written in the document.
FUNCTIONS = {
    machines.is_alphabet: "(value)",
    machines.alike: "(one, other)",
}
CLASSES = {
    machines.Machine: {
        "__init__": "(self, alphabet, moves)",
        "moves": "(self)",
        "reachable": "(self)",
        "behind": "(self, word, *, state=0)",
        "far": "(self, parts, *, state=0)",
        "word_to": "(self, state)",
        "standard": "(self)",
        "ring": "(cls, alphabet, size)",
        "counter": "(alphabet, size, *, letter)",
        "__eq__": "(self, other)",
        "__len__": "(self)",
        "__repr__": "(self)",
    },
    teams.Team: {
        "__init__": "(self, machines)",
        "machines": "(self)",
        "joint_states": "(self)",
        "joint": "(self)",
        "behind": "(self, word)",
        "number_of": "(self, states)",
        "word_to": "(self, number)",
        "parting": "(self, one, other)",
        "weakest": "(self)",
        "with_machines": "(self, *more)",
        "without": "(self, index)",
        "__eq__": "(self, other)",
        "__len__": "(self)",
        "__repr__": "(self)",
    },
}
PROPERTIES = {machines.Machine: ["alphabet", "states"], teams.Team: ["alphabet", "distance"]}
VALUES = {machines.Machine: {"STATES": 24}, teams.Team: {"MOST": 6, "JOINT": 24}}


class Interface(unittest.TestCase):
    def test_functions(self):
        for function, text in FUNCTIONS.items():
            self.assertEqual(str(inspect.signature(function)), text)
        self.assertEqual({function.__module__ for function in FUNCTIONS}, {"othersknow.machines"})

    def test_classes_stand_in_their_files(self):
        self.assertEqual(machines.Machine.__module__, "othersknow.machines")
        self.assertEqual(teams.Team.__module__, "othersknow.teams")

    def test_methods_stand_in_their_class_itself(self):
        for held, methods in CLASSES.items():
            for name, text in methods.items():
                with self.subTest(held=held.__name__, name=name):
                    method = vars(held)[name]
                    self.assertEqual(str(inspect.signature(getattr(method, "__func__", method))), text)

    def test_class_methods_and_static_methods(self):
        self.assertIsInstance(vars(machines.Machine)["ring"], classmethod)
        self.assertIsInstance(vars(machines.Machine)["counter"], staticmethod)

    def test_properties(self):
        for held, names in PROPERTIES.items():
            for name in names:
                self.assertIsInstance(vars(held)[name], property)

    def test_class_values(self):
        for held, values in VALUES.items():
            for name, value in values.items():
                self.assertEqual(vars(held)[name], value)


if __name__ == "__main__":
    unittest.main()
