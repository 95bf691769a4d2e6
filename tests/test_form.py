"""The form of the program's files, as far as it is quickly told: sizes, characters, imports, names."""

import ast
import builtins
import unittest
from pathlib import Path

FOLDER = Path(__file__).resolve().parent.parent / "splitalike"
FILES = sorted(FOLDER.glob("*.py"))
ALLOWED = """len range enumerate zip min max sum abs sorted reversed int str bool bytes list tuple dict set isinstance
ord repr any all divmod ValueError NotImplemented staticmethod classmethod property""".split()
LIBRARY = {"heapq", "math", "itertools", "collections"}
DEFINED = {
    "errors": """SplitError BadReader BadRing BadBegin TooMany TooGreat NoLine BadText BadCell BadCount NoCell
NoReader NothingToUndo BadBound NoRule""".split(),
    "readers": ["Reader"],
    "texts": ["written", "read_reader"],
    "rows": ["Row"],
    "runs": ["Told", "run", "cuts", "parting_place"],
    "desks": ["Desk"],
    "parting": ["parted", "differing", "differing_place"],
    "meeting": ["meets", "meets_beyond", "meeting", "meeting_beyond"],
    "bounded": ["parted_within"],
    "hardening": ["rules_of", "used", "shows_turned", "makes_safe", "least_sets"],
    "families": ["families"],
    "telling": ["told_apart", "least_rows"],
}
METHODS = {
    "Reader": ["__init__", "__eq__", "names", "line_of", "exits", "reads", "replaced"],
    "Row": """__init__ of_runs size cell_at part cells __add__ __mul__ __contains__ __eq__""".split(),
    "Told": ["__init__", "__eq__"],
    "Desk": """__init__ feed feed_many feed_row fed told cuts_of parting undo redo""".split(),
}
# The parameters of the interface, besides self.
PARAMETERS = {
    "run": "reader row",
    "cuts": "reader row",
    "parting_place": "one other row",
    "Desk": "readers",
    "feed": "cell",
    "feed_many": "count cell",
    "feed_row": "row",
    "told": "number",
    "cuts_of": "number",
    "parting": "one other",
    "parted": "one other",
    "differing": "one other",
    "differing_place": "one other row",
    "meets": "one other",
    "meets_beyond": "one other",
    "meeting": "one other name second",
    "meeting_beyond": "one other name second",
    "parted_within": "one other bound",
    "rules_of": "reader",
    "used": "reader row",
    "shows_turned": "reader rules row",
    "makes_safe": "reader rules others",
    "least_sets": "reader others",
    "families": "readers",
    "told_apart": "readers rows",
    "least_rows": "readers rows",
}


def tree_of(path):
    return ast.parse(path.read_text(encoding="utf-8"))


class Form(unittest.TestCase):
    def test_the_folder_contains_files_of_the_program_alone(self):
        others = [path.name for path in FOLDER.iterdir() if path.suffix != ".py" and path.name != "__pycache__"]
        self.assertEqual(others, [])

    def test_sizes_and_characters(self):
        for path in FILES:
            text = path.read_text(encoding="utf-8")
            rows = text.split("\n")
            self.assertLess(len(rows), 400, path.name)
            self.assertLessEqual(max(len(row) for row in rows), 120, path.name)
            self.assertTrue(all(sign == "\n" or " " <= sign <= "~" for sign in text), path.name)
            for node in ast.walk(tree_of(path)):
                if isinstance(node, ast.FunctionDef):
                    self.assertLessEqual(node.end_lineno - node.lineno + 1, 40, node.name)

    def test_imports(self):
        for path in FILES:
            nodes = [node for node in ast.walk(tree_of(path)) if isinstance(node, (ast.Import, ast.ImportFrom))]
            self.assertTrue(all(isinstance(node, ast.ImportFrom) and node.level == 0 for node in nodes), path.name)
            for module in [node.module for node in nodes]:
                self.assertTrue(module.startswith("splitalike.") or module in LIBRARY, module)

    def test_builtins(self):
        for path in FILES:
            used = {node.id for node in ast.walk(tree_of(path)) if isinstance(node, ast.Name)}
            # Running an example leaves a builtin "_" behind.
            self.assertEqual(sorted((used & set(dir(builtins))) - {*ALLOWED, "_"}), [], path.name)

    def test_names_of_the_interface_stand_in_their_files(self):
        for module, names in DEFINED.items():
            body = tree_of(FOLDER / (module + ".py")).body
            own = {node.name: node for node in body if isinstance(node, (ast.ClassDef, ast.FunctionDef))}
            for name in names:
                self.assertIn(name, own)
                methods = [node.name for node in own[name].body if isinstance(node, ast.FunctionDef)]
                for method in METHODS.get(name, []):
                    self.assertIn(method, methods)

    def test_parameters_of_the_interface(self):
        found = {}
        for module in DEFINED:
            for node in ast.walk(tree_of(FOLDER / (module + ".py"))):
                if isinstance(node, ast.ClassDef):
                    inits = [own for own in node.body if isinstance(own, ast.FunctionDef) and own.name == "__init__"]
                    found.update({node.name: init.args for init in inits})
                elif isinstance(node, ast.FunctionDef):
                    found[node.name] = node.args
        for name, words in PARAMETERS.items():
            told = [argument.arg for argument in found[name].args if argument.arg != "self"]
            self.assertEqual(told, words.split(), name)


if __name__ == "__main__":
    unittest.main()
