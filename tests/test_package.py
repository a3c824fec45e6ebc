"""The package itself: its files, and where the interface is defined."""

import ast
import pathlib
import re
import unittest

PACKAGE = pathlib.Path(__file__).resolve().parent.parent / "clusterhall"
FUNCTIONS = {
    "amounts.py": ["is_name", "nothing_of", "amount_sum", "amount_less", "amount_fits", "amount_times",
                   "amount_least", "most_times"],
    "placing.py": ["counts_of", "placed", "shows_placed", "shows_none"],
}
CLASSES = {
    "errors.py": {name: [] for name in ["HallError", "Taken", "NoKey", "TooMuch", "NoHouse", "NoGang", "NoGuild",
                                        "NoKind", "InUse", "TooMany", "NoPlan", "Past", "BadRow"]},
    "books.py": {"Book": ["put_entry", "cut_entry", "stretch_entry", "drop_entry", "drop_past", "load_at",
                          "left_over", "entry_rows", "next_edge", "next_end", "whole_room", "twin_book"]},
}
BARRED_WORDS = ["type", "typing", "enum", "Flag", "Generic", "Protocol", "ABC", "namedtuple"]


def files():
    return sorted(PACKAGE.glob("*.py"))


def tree_of(name):
    return ast.parse((PACKAGE / name).read_text(encoding="utf-8"))


def defined_in(body, kind):
    return {node.name: node for node in body if isinstance(node, kind)}


class Interface(unittest.TestCase):
    def test_functions_are_defined_in_their_files(self):
        for name, wanted in FUNCTIONS.items():
            there = defined_in(tree_of(name).body, ast.FunctionDef)
            self.assertEqual([word for word in wanted if word not in there], [], name)

    def test_classes_and_their_methods_are_defined_in_their_files(self):
        for name, classes in CLASSES.items():
            there = defined_in(tree_of(name).body, ast.ClassDef)
            for word, methods in classes.items():
                self.assertIn(word, there)
                own = defined_in(there[word].body, ast.FunctionDef)
                self.assertEqual([method for method in methods if method not in own], [], word)


class Files(unittest.TestCase):
    def test_the_folder_has_only_python_files(self):
        others = [path.name for path in PACKAGE.iterdir() if path.suffix != ".py" and path.name != "__pycache__"]
        self.assertEqual(others, [])
        self.assertTrue((PACKAGE / "__init__.py").is_file())

    def test_sizes_and_signs(self):
        for path in files():
            rows = path.read_text(encoding="utf-8").split("\n")
            self.assertLess(len(rows), 400, path.name)
            for number, row in enumerate(rows, 1):
                where = f"{path.name}:{number}"
                self.assertLessEqual(len(row), 120, where)
                self.assertTrue(all(" " <= sign <= "~" for sign in row), where)

    def test_functions_are_short(self):
        for path in files():
            for node in ast.walk(tree_of(path.name)):
                if isinstance(node, ast.FunctionDef):
                    self.assertLessEqual(node.end_lineno - node.lineno + 1, 40, f"{path.name}: {node.name}")

    def test_imports_are_from_the_package_by_full_names(self):
        for path in files():
            for node in ast.walk(tree_of(path.name)):
                self.assertNotIsInstance(node, ast.Import, path.name)
                if isinstance(node, ast.ImportFrom):
                    self.assertEqual(node.level, 0, path.name)
                    self.assertTrue(node.module.startswith("clusterhall."), path.name)

    def test_barred_words(self):
        for path in files():
            words = re.findall(r"\w+", path.read_text(encoding="utf-8"))
            self.assertEqual([word for word in words if word in BARRED_WORDS], [], path.name)


if __name__ == "__main__":
    unittest.main()
