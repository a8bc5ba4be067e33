"""The names and arguments that the interface lists."""

import ast
import importlib
import inspect
import unittest
from pathlib import Path

FUNCTIONS = {
    "fractions": {
        "part": ["top", "bottom"], "plus": ["one", "other"], "minus": ["one", "other"], "times": ["one", "other"],
        "over": ["one", "other"], "less": ["one", "other"], "is_fraction": ["thing"],
    },
    "items": {"is_name": ["thing"], "is_item": ["thing"], "length_of": ["items"], "laid": ["items"]},
    "bars": {"is_bar": ["thing"], "marks_of": ["bar"], "voice_of": ["bar", "voice"]},
    "scores": {"checked": ["score"]},
    "lines": {"line": ["score", "name"]},
    "walks": {"walk": ["score", "name"], "unfolded": ["score", "name"]},
    "paces": {"span": ["marks", "one", "other"], "reach": ["marks", "place", "span"]},
    "clocks": {"time_at": ["score", "on", "place"], "place_at": ["score", "on", "time"]},
    "times": {
        "waits": ["score", "gives"], "early": ["score", "gives", "name", "place"],
        "late": ["score", "gives", "name", "place"],
    },
    "timepapers": {"paper": ["score", "gives"], "shows_times": ["score", "gives", "paper"]},
    "standing": {"why": ["score", "gives"]},
    "sounds": {"sounds": ["score", "gives"]},
    "rows": {"row": ["score", "gives", "name", "voice"]},
    "meetings": {"parting": ["score", "gives"]},
    "stretches": {"stretch": ["told", "one", "other"]},
    "places": {"where": ["score", "gives", "name", "time"], "begin_of": ["score", "gives", "name", "number"]},
    "changes": {"played": ["score", "changes"]},
    "drawing": {"drawn": ["score", "names"], "together": ["scores"], "wants": ["score", "gives", "names"]},
    "written": {"written": ["score", "name"], "nexts": ["score", "name"]},
    "hearing": {"heard": ["score", "name", "row"]},
    "heardpapers": {"shows_heard": ["score", "name", "row", "told"]},
    "reading": {"read_score": ["text"]},
    "showing": {"show_score": ["score"]},
}
# Module -> class -> method -> arguments; __init__ has those with which it is made.
CLASSES = {
    "desk": {"Desk": {"__init__": ["text"], "say": ["line"]}},
    "players": {
        "Player": {"__init__": ["score"], "now": [], "go": ["time"], "change": ["deed"], "changes": []},
    },
}


class Interface(unittest.TestCase):
    def test_functions_and_their_arguments(self):
        for module, functions in FUNCTIONS.items():
            told = importlib.import_module(f"manyclocks.{module}")
            for name, arguments in functions.items():
                found = inspect.signature(getattr(told, name)).parameters
                self.assertEqual(list(found), arguments, f"{module}.{name}")

    def test_classes_and_their_own_methods(self):
        for module, classes in CLASSES.items():
            told = importlib.import_module(f"manyclocks.{module}")
            for name, methods in classes.items():
                for method, arguments in methods.items():
                    found = inspect.signature(vars(getattr(told, name))[method]).parameters
                    self.assertEqual(list(found)[1:], arguments, f"{module}.{name}.{method}")

    def test_readme_examples(self):
        text = (Path(__file__).resolve().parent.parent / "README.md").read_text()
        examples = [piece.split("```")[0] for piece in text.split("```python\n")[1:]]
        names, many = {}, 0
        for example in examples:
            rows = example.split("\n")
            for node in ast.parse(example).body:
                asked = ast.unparse(node)
                worth = rows[node.end_lineno - 1].partition("# tells ")[2]
                if worth:
                    self.assertEqual(eval(asked, names), eval(worth, names), asked)
                    many += 1
                else:
                    exec(asked, names)
        self.assertGreater(many, 3)


if __name__ == "__main__":
    unittest.main()
