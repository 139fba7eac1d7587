"""The names and arguments of the interface."""

import ast
import importlib
import inspect
import pathlib
import unittest

import interface
import suredue

PACKAGE = pathlib.Path(suredue.__file__).parent


class Interface(unittest.TestCase):
    def test_number_of_functions(self):
        numbers = {"sheets": 18, "ledger": 12, "settling": 8, "letters": 16, "offers": 12, "clocks": 11, "watch": 11}
        numbers.update({"rules": 6, "minds": 5, "routes": 13, "worlds": 9})
        numbers.update({"payments": 8, "nets": 10, "dues": 8, "games": 8})
        numbers.update({"plans": 10, "takings": 3, "judge": 8, "shell": 2})
        self.assertEqual({name: len(functions) for name, functions in interface.FILES.items()}, numbers)

    def test_functions_have_their_arguments(self):
        for file, functions in interface.FILES.items():
            module = importlib.import_module(f"suredue.{file}")
            for name, args in functions.items():
                parameters = inspect.signature(getattr(module, name)).parameters
                self.assertEqual(list(parameters), args, name)
                for parameter in parameters.values():
                    self.assertIs(parameter.kind, inspect.Parameter.POSITIONAL_OR_KEYWORD, name)
                    self.assertIs(parameter.default, inspect.Parameter.empty, name)

    def test_functions_are_defined_in_their_file(self):
        for file, functions in interface.FILES.items():
            tree = ast.parse((PACKAGE / f"{file}.py").read_text(encoding="utf-8"))
            defined = [part.name for part in tree.body if isinstance(part, ast.FunctionDef)]
            for name in functions:
                self.assertEqual(defined.count(name), 1, name)

    def test_errors_are_defined_in_their_file(self):
        tree = ast.parse((PACKAGE / "errors.py").read_text(encoding="utf-8"))
        defined = [part.name for part in tree.body if isinstance(part, ast.ClassDef)]
        self.assertEqual(sorted(defined), ["BadText", "CanNot", "NoPlace", "TooMuch", "Unfit"])


if __name__ == "__main__":
    unittest.main()
