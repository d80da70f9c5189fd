"""The form of the package: what stands where, and a few plain limits of its code."""

import ast
import doctest
import unittest
from pathlib import Path

ROOT = Path(__file__).resolve().parent.parent
PACKAGE = ROOT / "probetables"
INTERFACE = {
    "errors": (
        "ProbeError", "BadSize", "BadNumber", "BadKey", "BadRule", "BadFamily", "BadSlots", "NotThere", "AlreadyThere",
        "NotRight", "NotClean", "Full", "NotText", "InvalidText", "NothingToUndo", "BadBook", "BadTable"),
    "books": ("linear", "stepped", "families", "in_family"),
    "tables": (
        "look_up", "looked_at", "places_sum", "is_right", "lost_key", "passing", "clearable", "cleared"),
    "inserts": ("insert", "insert_rules", "count_orders", "least_order", "ring"),
    "deletes": ("delete", "delete_rules", "is_right_rule", "wrong_case"),
    "ways": ("fewest_moves", "count_short_ways", "short_way", "suspects", "shows_way"),
    "texts": ("write_book", "write_table", "read_book", "read_table"),
    "desks": ("Desk",),
}
METHODS = {"Desk": ("run", "undo", "table")}
LIBRARY = {"math": {"gcd"}}


def parsed_files():
    return [(path, ast.parse(path.read_text("utf-8"))) for path in sorted(PACKAGE.glob("*.py"))]


class Form(unittest.TestCase):
    def test_interface_is_defined_in_its_files(self):
        for name, wanted in INTERFACE.items():
            body = ast.parse((PACKAGE / f"{name}.py").read_text("utf-8")).body
            defined = [part.name for part in body if isinstance(part, (ast.FunctionDef, ast.ClassDef))]
            self.assertEqual([part for part in wanted if part not in defined], [], name)

    def test_methods_are_defined_in_their_classes(self):
        classes = {part.name: part for _, tree in parsed_files() for part in tree.body if isinstance(part, ast.ClassDef)}
        for name, wanted in METHODS.items():
            defined = [part.name for part in classes[name].body if isinstance(part, ast.FunctionDef)]
            self.assertEqual([part for part in wanted if part not in defined], [], name)

    def test_imports_come_from_the_package_and_the_allowed_library(self):
        for path, tree in parsed_files():
            for part in ast.walk(tree):
                self.assertNotIsInstance(part, ast.Import, path)
                if isinstance(part, ast.ImportFrom) and not part.module.startswith("probetables."):
                    self.assertLessEqual({name.name for name in part.names}, LIBRARY.get(part.module, set()), path)

    def test_sizes_and_characters(self):
        for path, tree in parsed_files():
            lines = path.read_text("utf-8").split("\n")
            self.assertLess(len(lines), 400, path)
            for line in lines:
                self.assertLessEqual(len(line), 120, (path, line))
                self.assertTrue(all(" " <= sign <= "~" for sign in line), (path, line))
            for part in ast.walk(tree):
                if isinstance(part, ast.FunctionDef):
                    self.assertLessEqual(part.end_lineno - part.lineno + 1, 40, part.name)

    def test_readme_shows_what_the_program_returns(self):
        failed, tried = doctest.testfile(str(ROOT / "README.md"), module_relative=False)
        self.assertGreater(tried, 0)
        self.assertEqual(failed, 0)


if __name__ == "__main__":
    unittest.main()
