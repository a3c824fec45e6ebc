"""The package itself: its files, and where the interface is defined."""

import ast
import builtins
import pathlib
import re
import unittest

PACKAGE = pathlib.Path(__file__).resolve().parent.parent / "clusterhall"
FUNCTIONS = {
    "amounts.py": ["is_name(word)", "nothing_of(wares)", "amount_sum(one, other)", "amount_less(one, other)",
                   "amount_fits(one, other)", "amount_times(one, n)", "amount_least(one, other)",
                   "most_times(want, room)"],
    "placing.py": ["counts_of(site, many, want, how)", "placed(site, many, want, how)",
                   "shows_placed(site, many, want, how, placing)", "shows_none(site, many, want, how, counts)"],
    "gangs.py": ["whole_of(gang)", "in_order(rows)"],
    "shares.py": ["parted(due, rows)", "owed(due, rows, gang)", "own_with(due, rows, gang)",
                  "may_take(dues, rows, names, gang)"],
    "takings.py": ["place_at(estate, gang, begin)", "place_without(estate, names, gang, begin)",
                   "place_but(estate, names, plans, gang, begin)", "taking_for(estate, names, gang, begin)",
                   "shows_taking(estate, names, gang, begin)", "bars_for(estate, names, plans, gang, begin)"],
    "fetching.py": ["fetched_of(estate, name)", "fits_with(estate, kind, n, gang, begin)",
                    "least_more(estate, kind, gang, begin)", "best_fetch(estate, kinds, gang, begin)",
                    "spare_houses(estate, gangs)"],
    "reasons.py": ["reason_of(hall, name)", "shows_reason(hall, name, reason)",
                   "unfair(estate, dues, rows, names, gangs, now, grace)", "overborne(room, rows)",
                   "fetch_for(hall, name)", "spare_now(hall)"],
    "stories.py": ["run(text)"],
}
CLASSES = {
    "errors.py": {name: [] for name in ["HallError", "Taken", "NoKey", "TooMuch", "NoHouse", "NoGang", "NoGuild",
                                        "NoKind", "InUse", "TooMany", "NoPlan", "Past", "BadRow"]},
    "books.py": {"Book": ["__init__(self, room)", "put_entry(self, key, begin, end, amount)",
                          "cut_entry(self, key, time)", "stretch_entry(self, key, end)", "drop_entry(self, key)",
                          "drop_past(self, time)", "load_at(self, time)", "left_over(self, begin, end)",
                          "entry_rows(self)", "next_edge(self, time)", "next_end(self, time)", "whole_room(self)",
                          "twin_book(self)"]},
    "estate.py": {"Estate": ["__init__(self)", "add_house(self, name, yard, room, kind)",
                             "set_state(self, name, state)", "drop_house(self, name)",
                             "book_gang(self, gang, placing, begin)", "cut_gang(self, name, time)",
                             "stretch_gang(self, name, end)", "drop_gang(self, name)", "forget_past(self, time)",
                             "site_for(self, begin, end)", "whole_site(self)", "booked_rows(self)",
                             "house_rows(self)", "house_loads(self, time)", "entries_in(self, name)",
                             "edge_after(self, time)", "end_after(self, time)", "twin_estate(self)"]},
    "hall.py": {"Hall": ["__init__(self, wares, grace)", "step(self, event)", "time_now(self)", "grace_told(self)",
                         "waiting_gangs(self)", "gang_rows(self)", "gang_of(self, name)", "taking_rows(self)",
                         "barred_rows(self)", "due_rows(self)", "kind_rows(self)", "estate_now(self)",
                         "share_rows(self)", "leavable_names(self)", "history_rows(self)"]},
}
BUILTIN_METHODS = ["append", "get", "items", "join", "split", "values"]
BUILTINS = ["len", "range", "enumerate", "zip", "min", "max", "sum", "abs", "sorted", "reversed", "int", "str", "bool",
            "list", "tuple", "dict", "set", "isinstance", "any", "all", "super"]
BARRED_WORDS = ["type", "typing", "typing_extensions", "enum", "Enum", "IntEnum", "StrEnum", "Flag", "IntFlag", "Generic",
                "Protocol", "ABC", "ABCMeta", "namedtuple", "NamedTuple", "TypedDict", "TYPE_CHECKING", "abstractmethod"]
BARRED_PARTS = ["dataclass", "overload", "contextmanager"]


def files():
    return sorted(PACKAGE.glob("*.py"))


def tree_of(name):
    return ast.parse((PACKAGE / name).read_text(encoding="utf-8"))


def nodes_of(name, kind):
    return [node for node in ast.walk(tree_of(name)) if isinstance(node, kind)]


def heads_in(body):
    """The functions of a body, each as name(arguments)."""
    return [f"{node.name}({ast.unparse(node.args)})" for node in body if isinstance(node, ast.FunctionDef)]


def modules_imported(name):
    """The files of the package that a file imports from."""
    return [node.module.split(".")[-1] + ".py" for node in nodes_of(name, ast.ImportFrom)]


def names_bound(name):
    """The parameters and variables of a file's functions."""
    parameters = [node.arg for node in nodes_of(name, ast.arg)]
    return parameters + [node.id for node in nodes_of(name, ast.Name) if isinstance(node.ctx, ast.Store)]


class Interface(unittest.TestCase):
    def test_functions_are_defined_in_their_files(self):
        for name, wanted in FUNCTIONS.items():
            there = heads_in(tree_of(name).body)
            self.assertEqual([head for head in wanted if head not in there], [], name)

    def test_classes_and_their_methods_are_defined_in_their_files(self):
        for name, classes in CLASSES.items():
            there = {node.name: node for node in tree_of(name).body if isinstance(node, ast.ClassDef)}
            for word, methods in classes.items():
                self.assertIn(word, there)
                own = heads_in(there[word].body)
                self.assertEqual([head for head in methods if head not in own], [], word)


class Files(unittest.TestCase):
    def test_the_folder_has_only_python_files(self):
        others = [path.name for path in PACKAGE.iterdir() if path.suffix != ".py" and path.name != "__pycache__"]
        self.assertEqual(others, [])
        self.assertTrue((PACKAGE / "__init__.py").is_file())

    def test_sizes_and_signs(self):
        for path in files():
            rows = path.read_text(encoding="utf-8").split("\n")
            self.assertLess(len(rows), 400, path.name)
            for number, row in enumerate(rows, 1):
                where = f"{path.name}:{number}"
                self.assertLessEqual(len(row), 120, where)
                self.assertTrue(all(" " <= sign <= "~" for sign in row), where)

    def test_functions_are_short(self):
        for path in files():
            for node in nodes_of(path.name, ast.FunctionDef):
                self.assertLessEqual(node.end_lineno - node.lineno + 1, 40, f"{path.name}: {node.name}")

    def test_imports_are_from_the_package_by_full_names(self):
        for path in files():
            self.assertEqual(nodes_of(path.name, ast.Import), [], path.name)
            for node in nodes_of(path.name, ast.ImportFrom):
                self.assertEqual(node.level, 0, path.name)
                self.assertTrue(node.module.startswith("clusterhall."), path.name)

    def test_no_imports_go_round(self):
        to_come = {path.name: modules_imported(path.name) for path in files()}
        while to_come:
            ready = [name for name in to_come if not any(other in to_come for other in to_come[name])]
            self.assertTrue(ready, to_come)
            to_come = {name: to_come[name] for name in to_come if name not in ready}

    def test_names_of_parameters_and_variables(self):
        for path in files():
            barred = dir(builtins) + [name.name for node in nodes_of(path.name, ast.ImportFrom) for name in node.names]
            barred += [node.name for node in nodes_of(path.name, ast.ClassDef)]
            bound = names_bound(path.name)
            self.assertEqual([name for name in bound if name in barred or name.startswith("_")], [], path.name)

    def test_no_name_is_a_method_and_an_attribute(self):
        methods, attributes = set(), set()
        for path in files():
            for node in nodes_of(path.name, ast.ClassDef):
                methods |= {part.name for part in node.body if isinstance(part, ast.FunctionDef)}
            attributes |= {node.attr for node in nodes_of(path.name, ast.Attribute) if isinstance(node.ctx, ast.Store)}
        self.assertEqual(methods & attributes, set())

    def test_attributes_that_are_read_are_assigned(self):
        methods, assigned, read = set(), set(), {}
        for path in files():
            for node in nodes_of(path.name, ast.ClassDef):
                methods |= {part.name for part in node.body if isinstance(part, ast.FunctionDef)}
            for node in nodes_of(path.name, ast.Attribute):
                if isinstance(node.ctx, ast.Store):
                    assigned.add(node.attr)
                else:
                    read[node.attr] = path.name
        unknown = {name: read[name] for name in read if name not in methods | assigned | set(BUILTIN_METHODS)}
        self.assertEqual(unknown, {})

    def test_strings(self):
        for path in files():
            for node in nodes_of(path.name, ast.Constant):
                if isinstance(node.value, str):
                    self.assertNotIn(chr(37), node.value, f"{path.name}:{node.lineno}")

    def test_no_clock_chance_files_or_other_builtins(self):
        known = set(BUILTINS)
        for path in files():
            calls = {node.func.id for node in nodes_of(path.name, ast.Call) if isinstance(node.func, ast.Name)}
            self.assertEqual([name for name in calls if name in dir(builtins) and name not in known], [], path.name)

    def test_barred_words(self):
        for path in files():
            text = path.read_text(encoding="utf-8")
            self.assertEqual([word for word in re.findall(r"\w+", text) if word in BARRED_WORDS], [], path.name)
            self.assertEqual([part for part in BARRED_PARTS if part in text], [], path.name)


if __name__ == "__main__":
    unittest.main()
