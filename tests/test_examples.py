"""Every example of the document, as it stands there, in its order, with names kept from one to the next."""

import doctest
import importlib
import unittest
from pathlib import Path

FOLDER = Path(__file__).parent / "examples"
FILES = ("errors", "powers", "rows", "spaces", "views", "lots", "kinds", "holds", "reasons", "breaks", "region", "bounds",
         "flags", "covers", "bases", "chances", "weights", "groups", "loops",
         "judge", "texts", "board", "desk")


def all_names():
    """What all files of the package define."""
    names = {}
    for file in FILES:
        module = importlib.import_module("seenlots." + file)
        names.update({name: value for name, value in vars(module).items() if callable(value)})
    return names


def shown_as(code, names):
    """What an example shows; None for an assignment."""
    try:
        compiled = compile(code, "example", "eval")
    except SyntaxError:
        exec(code, names)
        return None
    try:
        return repr(eval(compiled, names))
    except (LookupError, ValueError) as error:
        kept = ", ".join(f"{name}={value!r}" for name, value in vars(error).items())
        return f"raises {type(error).__name__}({kept})"


class Examples(unittest.TestCase):
    def test_all(self):
        names = all_names()
        count = 0
        for path in sorted(FOLDER.glob("*.txt")):
            lines = path.read_text(encoding="utf-8").splitlines()
            for line, behind in zip(lines, lines[1:] + [""]):
                if not line.startswith(">>> "):
                    continue
                result = shown_as(line[4:], names)
                if result is None:
                    self.assertTrue(behind.startswith(">>> "), line)
                else:
                    count += 1
                    self.assertEqual(result, behind, line)
        self.assertEqual(count, 156)

    def test_readme(self):
        failed, count = doctest.testfile(str(FOLDER.parent.parent / "README.md"), module_relative=False)
        self.assertEqual(failed, 0)
        self.assertGreater(count, 10)


if __name__ == "__main__":
    unittest.main()
