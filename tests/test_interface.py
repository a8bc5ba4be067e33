"""The names and arguments that the interface lists."""

import importlib
import inspect
import unittest

FUNCTIONS = {
    "fractions": {
        "part": ["top", "bottom"], "plus": ["one", "other"], "minus": ["one", "other"], "times": ["one", "other"],
        "over": ["one", "other"], "less": ["one", "other"], "is_fraction": ["thing"],
    },
    "items": {"is_name": ["thing"], "is_item": ["thing"], "length_of": ["items"], "laid": ["items"]},
    "bars": {"is_bar": ["thing"], "marks_of": ["bar"], "voice_of": ["bar", "voice"]},
    "scores": {"checked": ["score"]},
    "lines": {"line": ["score", "name"]},
    "walks": {"walk": ["score", "name"], "unfolded": ["score", "name"]},
    "paces": {"span": ["marks", "one", "other"], "reach": ["marks", "place", "span"]},
    "clocks": {"time_at": ["score", "on", "place"], "place_at": ["score", "on", "time"]},
}


class Interface(unittest.TestCase):
    def test_functions_and_their_arguments(self):
        for module, functions in FUNCTIONS.items():
            told = importlib.import_module(f"manyclocks.{module}")
            for name, arguments in functions.items():
                found = inspect.signature(getattr(told, name)).parameters
                self.assertEqual(list(found), arguments, f"{module}.{name}")

    def test_readme_example(self):
        from pathlib import Path
        text = (Path(__file__).resolve().parent.parent / "README.md").read_text()
        example = text.split("```python\n")[1].split("```")[0]
        names = {}
        exec(example, names)
        self.assertEqual(names["walk"](names["score"], "flute"), [0, 1, 0, 1])
        self.assertEqual(names["time_at"](names["score"], "slow", (3, 1)), (6, 1))
        self.assertEqual(names["place_at"](names["score"], "slow", (7, 1)), (7, 2))


if __name__ == "__main__":
    unittest.main()
