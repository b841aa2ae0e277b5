"""The interface: each name stands in its file, with its parameters; promise [0.1]."""

import importlib
import inspect
import unittest

FUNCTIONS = {
    "rows": {"is_operand": "value", "is_row": "value", "reckoned": "op one other", "operands_of": "row",
             "set_by": "row"},
    "states": {"is_state": "program value", "first_state": "program", "next_state": "program inputs state",
               "cell_in": "program state cell"},
}

CLASSES = {
    "programs": {"Program": {"__init__": "procedures", "__eq__": "other", "names": "", "procedure": "name",
                             "variables_of": "name", "row": "spot", "spots": "", "nexts": "spot",
                             "has_spot": "value"}},
}


class Interface(unittest.TestCase):
    def test_functions(self):
        for file, functions in FUNCTIONS.items():
            module = importlib.import_module(f"plainmoment.{file}")
            for name, told in functions.items():
                function = getattr(module, name)
                self.assertEqual(function.__module__, module.__name__, name)
                self.assertEqual(" ".join(self.parameters_of(function)), told, name)

    def test_classes(self):
        for file, classes in CLASSES.items():
            module = importlib.import_module(f"plainmoment.{file}")
            for kind, methods in classes.items():
                self.assertEqual(getattr(module, kind).__module__, module.__name__, kind)
                for name, told in methods.items():
                    method = vars(getattr(module, kind))[name]
                    self.assertEqual(" ".join(self.parameters_of(method)[1:]), told, f"{kind}.{name}")

    def parameters_of(self, function):
        """The names of the parameters, a default behind its sign; all may be given by position and by name."""
        told = []
        for parameter in inspect.signature(function).parameters.values():
            self.assertEqual(parameter.kind, parameter.POSITIONAL_OR_KEYWORD)
            default = "" if parameter.default is parameter.empty else f"={parameter.default!r}"
            told.append(parameter.name + default)
        return told


if __name__ == "__main__":
    unittest.main()
