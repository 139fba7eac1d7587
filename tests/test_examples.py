"""The examples of the document, as it prints them."""

import ast
import pathlib
import unittest

from suredue import clocks, dues, errors, games, judge, ledger, letters, minds, nets, offers, payments, plans, routes
from suredue import rules, settling, sheets, shell, takings, watch, worlds
from support import shape

FOLDER = pathlib.Path(__file__).parent / "examples"
MODULES = (
    sheets, ledger, letters, offers, rules, clocks, minds, routes, worlds, plans, dues, takings, games, payments, settling,
    watch, nets, judge, shell,
)


def cases(text):
    """The pairs (code, expected) of an example text; expected is None for what sets names."""
    lines = text.splitlines()
    for at, line in enumerate(lines):
        if line.startswith(">>> "):
            below = lines[at + 1] if at + 1 < len(lines) else ">>> "
            yield line[4:], None if below.startswith(">>> ") else below


def raised(code, names):
    """The error that code raises; None if it raises none."""
    try:
        eval(code, names)
    except (LookupError, ValueError) as error:
        return error
    return None


class Examples(unittest.TestCase):
    def check_error(self, code, expected, names):
        call = ast.parse(expected[len("raises "):], mode="eval").body
        error = raised(code, names)
        self.assertIsNotNone(error, code)
        self.assertIs(error.__class__, getattr(errors, call.func.id), code)
        # What an error keeps is told by its name or by its place.
        told = [ast.literal_eval(part) for part in call.args]
        wanted = error.__class__(*told, **{part.arg: ast.literal_eval(part.value) for part in call.keywords})
        self.assertEqual(shape(vars(error)), shape(vars(wanted)), code)

    def test_all_examples_in_their_order(self):
        # Names stay from one section to the next.
        names, seen = {}, 0
        for module in MODULES:
            names.update({name: thing for name, thing in vars(module).items() if not name.startswith("_")})
        for path in sorted(FOLDER.glob("*.txt")):
            for code, expected in cases(path.read_text(encoding="utf-8")):
                with self.subTest(section=path.stem, code=code):
                    seen += 1
                    if expected is None:
                        exec(code, names)
                    elif expected.startswith("raises "):
                        self.check_error(code, expected, names)
                    else:
                        # Strings are printed with either quote.
                        self.assertEqual(shape(eval(code, names)), shape(ast.literal_eval(expected)))
        self.assertEqual(seen, 165)

    def test_each_section_is_there(self):
        sections = ["04_sheets", "05_ledger", "06_letters", "07_offers", "08_rules", "09_clocks", "10_minds", "11_routes"]
        sections += ["12_worlds", "13_plans", "14_dues", "15_takings", "16_games", "17_payments", "18_settling", "19_watch"]
        sections += ["20_nets", "21_judge", "22_shell"]
        self.assertEqual([path.stem for path in sorted(FOLDER.glob("*.txt"))], sections)


if __name__ == "__main__":
    unittest.main()
