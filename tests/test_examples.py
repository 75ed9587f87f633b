"""The examples of the document: what is returned, kinds too; what is raised, with its attributes."""

import builtins
import doctest
import importlib
import pathlib
import unittest

from tests.examples import EXAMPLES


def steps(text):
    """The pairs (what is typed, what is answered or None)."""
    found = []
    for row in text.strip().split("\n"):
        if row.startswith(">>> "):
            found.append([row[4:], None])
        else:
            found[-1][1] = row
    return found


def answer(typed, names):
    """What is answered to an expression, as the document writes it."""
    try:
        return repr(eval(typed, names))
    except Exception as error:
        inside = ", ".join(f"{name}={value!r}" for name, value in vars(error).items())
        return f"raises {type(error).__name__}({inside})"


class Examples(unittest.TestCase):
    def test_examples(self):
        names, asked = {}, 0
        for promise, module, text in EXAMPLES:
            own = vars(importlib.import_module("neverbrush." + module))
            names.update({name: value for name, value in own.items() if callable(value)})
            for typed, answered in steps(text):
                if answered is None:
                    exec(typed, names)
                    continue
                asked += 1
                with self.subTest(promise=promise, typed=typed):
                    wanted = answered if answered.startswith("raises ") else repr(eval(answered))
                    self.assertEqual(answer(typed, names), wanted)
        self.assertEqual(asked, 188)

    def test_readme(self):
        path = pathlib.Path(__file__).resolve().parent.parent / "README.md"
        told = doctest.testfile(str(path), module_relative=False)
        # doctest leaves its last result there, for all tests behind it
        vars(builtins).pop("_", None)
        self.assertEqual(told.failed, 0)
        self.assertGreater(told.attempted, 20)


if __name__ == "__main__":
    unittest.main()
