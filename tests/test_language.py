"""The package's files keep to the plain part of Python that they are written in, and to the interface."""

import ast
import importlib
import inspect
import pathlib
import unittest

FOLDER = pathlib.Path(__file__).resolve().parent.parent / "servedalone"
FILES = sorted(FOLDER.glob("**/*.py"))
BUILTINS = set("""
    len range enumerate zip min max sum abs sorted reversed int str bool list tuple dict set isinstance ord repr any
    all divmod iter property staticmethod classmethod super ValueError TypeError KeyError ZeroDivisionError
""".split())
METHODS_LEFT_OUT = {"__hash__", "__getattr__", "__setattr__", "__new__", "__next__", "__del__", "__call__"}
SUMS_OF_LISTS = {"any", "all", "min", "max", "sum", "sorted"}

LIBRARY = {"math": {"gcd", "lcm", "isqrt", "comb", "perm", "factorial"}}

# For each file, what the interface lists: functions with their parameters, classes with their methods.
INTERFACE = {
    "errors": {
        "ServeError": None,
        "InvalidNumber": {"__init__": "self, number"},
        "InvalidLetter": {"__init__": "self, letter"},
        "NoRoom": {"__init__": "self, many"},
        "NotHeld": {"__init__": "self, block"},
        "NotAlone": {"__init__": "self, block"},
        "NoRequest": {"__init__": "self, ticket"},
        "NoHouse": {"__init__": "self, house"},
        "TooLarge": {"__init__": "self, ticket"},
    },
    "nets": {
        "Net": {
            "__init__": "self, prime, embed, shift, layers, out, end", "letters": "self", "row": "self, rows, letter",
        },
        "greatest": "weights",
        "by_number": "weights, number",
    },
    "asks": {
        "Ask": {
            "__init__": "self, prompt, most, *, stops=(), tape=(), rule=None", "choice": "self, weights, text",
        },
    },
    "rules": {
        "Rule": {
            "__init__": "self, start, steps", "after": "self, text", "lets": "self, text, letter",
            "__eq__": "self, other",
        },
    },
    "plain": {"rows_of": "net, letters", "weights_behind": "net, letters", "written": "net, ask, *, begun=()"},
    "stores": {
        "Store": {
            "__init__": "self, many, size", "take": "self", "hold": "self, block", "release": "self, block",
            "put_row": "self, block, row", "shorten": "self, block, many", "rows": "self, block",
            "holders": "self, block", "free": "self",
        },
    },
    "tables": {
        "Table": {
            "__init__": "self, store", "rows": "self", "put_row": "self, row", "take_over": "self, block",
            "exchange_last": "self, block", "cut": "self, many", "fork": "self",
        },
    },
    "trees": {
        "Tree": {
            "__init__": "self, store", "known": "self, letters", "put": "self, path, block", "drop": "self",
            "__len__": "self", "__iter__": "self",
        },
    },
    "streams": {"held_back": "stops, text"},
    "houses": {
        "House": {
            "__init__": "self, net, many, size", "come_back": "cls, net, many, size, log", "reckoned": "self",
            "ask": "self, ask", "word": "self, ticket", "text": "self, ticket", "blocks_of": "self, ticket",
            "length_of": "self, ticket", "going": "self", "step": "self, plan", "put_off": "self, ticket",
            "swap_out": "self, ticket", "swap_in": "self, ticket", "is_out": "self, ticket",
            "fork": "self, ticket, tape", "cancel": "self, ticket", "guess": "self, ticket, guesses",
            "sendable": "self, ticket", "deliver": "self, ticket", "delivered": "self, ticket", "log": "self",
        },
    },
    "guesses": {"lesser_guesses": "house, ticket, lesser, many"},
    "fleets": {
        "Fleet": {
            "__init__": "self, net, shapes", "ask": "self, ask", "place": "self, ticket", "house": "self, house",
            "move": "self, ticket, to", "fall": "self, house", "deliver": "self, ticket", "word": "self, ticket",
            "text": "self, ticket",
        },
    },
    "planners": {"needed": "house, ticket", "turn": "house", "serve": "house"},
    "shares": {
        "Share": {
            "__init__": "self, over, under", "__add__": "self, other", "__sub__": "self, other",
            "__mul__": "self, other", "__eq__": "self, other", "is_below": "self, other",
        },
        "lesser_of": "share, other",
    },
    "chances": {
        "next_shares": "net, letters", "text_share": "net, prompt, text",
        "round_shares": "net, lesser, prompt, many", "told_shares": "net, ask, text",
    },
    "beams": {"plain_beams": "net, prompt, wide, most", "beams_in": "house, prompt, wide, most"},
    "audits": {"holders": "house", "faults": "house", "distinct": "rows", "blocks_together": "rows, size"},
    "deadlines": {"deadline_plan": "needs"},
}


def parsed(path):
    return ast.parse(path.read_text())


class Files(unittest.TestCase):
    def test_there_are_files_of_python_alone(self):
        self.assertIn(FOLDER / "__init__.py", FILES)
        others = [path for path in FOLDER.rglob("*") if path.is_file() and "__pycache__" not in path.parts]
        self.assertEqual(sorted(others), FILES)

    def test_characters_and_lengths(self):
        for path in FILES:
            text = path.read_bytes().decode("ascii")
            self.assertEqual([sign for sign in text if sign != "\n" and not " " <= sign <= "~"], [], path)
            lines = text.split("\n")
            self.assertEqual(lines[-1], "", path)
            self.assertLessEqual(len(lines) - 1, 399, path)
            self.assertLessEqual(max(len(line) for line in lines), 120, path)

    def test_functions_are_short(self):
        for path in FILES:
            for node in ast.walk(parsed(path)):
                if isinstance(node, ast.FunctionDef):
                    self.assertLessEqual(node.end_lineno - node.lineno + 1, 40, (path, node.name))

    def test_every_part_has_a_docstring(self):
        for path in FILES:
            tree = parsed(path)
            self.assertTrue(ast.get_docstring(tree), path)
            for node in ast.walk(tree):
                if isinstance(node, (ast.FunctionDef, ast.ClassDef)) and not node.name.startswith("__"):
                    self.assertTrue(ast.get_docstring(node), (path, node.name))


class Statements(unittest.TestCase):
    def each(self):
        for path in FILES:
            for node in ast.walk(parsed(path)):
                yield path, node

    def test_imports_name_the_very_file(self):
        needs = {}
        for path in FILES:
            needs[path.stem] = set()
            for node in ast.walk(parsed(path)):
                self.assertNotIsInstance(node, ast.Import, path)
                if isinstance(node, ast.ImportFrom) and node.module in LIBRARY:
                    self.assertLessEqual({alias.name for alias in node.names}, LIBRARY[node.module], path)
                elif isinstance(node, ast.ImportFrom):
                    package, _, name = node.module.partition(".")
                    self.assertEqual((package, node.level), ("servedalone", 0), path)
                    needs[path.stem].add(name)
                    made = {part.name for part in parsed(FOLDER / (name + ".py")).body if hasattr(part, "name")}
                    self.assertLessEqual({alias.name for alias in node.names}, made, path)
        while needs:
            free = [name for name in needs if not needs[name] & set(needs)]
            self.assertTrue(free, "files that import from each other")
            needs = {name: needs[name] for name in needs if name not in free}

    def test_every_import_is_used(self):
        for path in FILES:
            tree = parsed(path)
            used = {node.id for node in ast.walk(tree) if isinstance(node, ast.Name)}
            for node in ast.walk(tree):
                if isinstance(node, ast.ImportFrom):
                    self.assertLessEqual({alias.name for alias in node.names}, used, path)

    def test_what_is_left_out_of_the_language(self):
        left_out = (
            ast.Global, ast.AsyncFunctionDef, ast.AsyncFor, ast.AsyncWith, ast.Await, ast.Div, ast.MatMult,
            ast.Yield, ast.YieldFrom, ast.Set, ast.AnnAssign, ast.NamedExpr, ast.Try, ast.With,
        )
        for path, node in self.each():
            self.assertNotIsInstance(node, left_out, (path, getattr(node, "lineno", None)))
            if isinstance(node, ast.Constant):
                self.assertNotIsInstance(node.value, (float, complex, bytes), path)
            if isinstance(node, ast.FunctionDef):
                self.assertNotIn(node.name, METHODS_LEFT_OUT, path)

    def test_sums_take_lists(self):
        for path, node in self.each():
            if isinstance(node, ast.Call) and isinstance(node.func, ast.Name) and node.func.id in SUMS_OF_LISTS:
                for argument in node.args:
                    self.assertNotIsInstance(argument, ast.GeneratorExp, (path, node.lineno))

    def test_is_stands_beside_none_and_bools(self):
        for path, node in self.each():
            if isinstance(node, ast.Compare) and any(isinstance(sign, (ast.Is, ast.IsNot)) for sign in node.ops):
                self.assertIsInstance(node.comparators[-1], ast.Constant, (path, node.lineno))

    def test_names_of_builtins_mean_the_builtins(self):
        every = set(dir(importlib.import_module("builtins")))
        for path, node in self.each():
            if isinstance(node, ast.Name) and node.id in every:
                self.assertIn(node.id, BUILTINS, (path, node.lineno))
                self.assertIsInstance(node.ctx, ast.Load, (path, node.lineno))
            if isinstance(node, ast.arg):
                self.assertNotIn(node.arg, every, (path, node.lineno))

    def test_module_level_is_plain(self):
        for path in FILES:
            for node in parsed(path).body:
                kinds = (ast.ImportFrom, ast.FunctionDef, ast.ClassDef, ast.Assign, ast.Expr)
                self.assertIsInstance(node, kinds, (path, node.lineno))
                if isinstance(node, (ast.Assign, ast.Expr)):
                    ast.literal_eval(node.value)


class Names(unittest.TestCase):
    def setUp(self):
        self.methods, self.properties, self.attributes = set(), set(), set()
        for path in FILES:
            for node in ast.walk(parsed(path)):
                if isinstance(node, ast.ClassDef):
                    for part in node.body:
                        if isinstance(part, ast.FunctionDef):
                            marks = [getattr(mark, "id", None) for mark in part.decorator_list]
                            (self.properties if "property" in marks else self.methods).add(part.name)
                if isinstance(node, ast.Attribute) and isinstance(node.ctx, ast.Store):
                    self.attributes.add(node.attr)
                    self.assertIsInstance(node.value, ast.Name, (path, node.lineno))

    def test_a_name_is_a_method_or_a_property_or_an_attribute(self):
        self.assertEqual(self.properties & (self.methods | self.attributes), set())
        # An error keeps the house that is none, and a fleet gives a house.
        self.assertEqual(self.methods & self.attributes, {"house"})

    def test_no_name_is_that_of_a_method_of_builtin_values(self):
        builtin = {name for kind in (int, str, bytes, list, tuple, dict, set) for name in dir(kind)}
        own = self.methods | self.properties | self.attributes
        self.assertEqual({name for name in own & builtin if not name.startswith("__")}, set())

    def test_what_is_imported_keeps_its_meaning(self):
        for path in FILES:
            nodes = list(ast.walk(parsed(path)))
            fixed = {alias.name for node in nodes if isinstance(node, ast.ImportFrom) for alias in node.names}
            fixed |= {node.name for node in nodes if isinstance(node, ast.ClassDef)}
            for node in nodes:
                if isinstance(node, ast.Name) and isinstance(node.ctx, ast.Store):
                    self.assertNotIn(node.id, fixed, (path, node.lineno))
                if isinstance(node, ast.arg):
                    self.assertNotIn(node.arg, fixed, (path, node.lineno))


class Interface(unittest.TestCase):
    def test_functions_and_classes_stand_in_their_files(self):
        for file, parts in INTERFACE.items():
            module = importlib.import_module("servedalone." + file)
            for name, told in parts.items():
                self.assertEqual(getattr(module, name).__module__, "servedalone." + file)
                if isinstance(told, str):
                    self.assert_parameters(getattr(module, name), told)
                for method, parameters in (told.items() if isinstance(told, dict) else ()):
                    found = vars(getattr(module, name))[method]
                    if isinstance(found, property):
                        found = found.fget
                    if isinstance(found, classmethod):
                        found = found.__func__
                    self.assert_parameters(found, parameters)

    def assert_parameters(self, function, wanted):
        self.assertEqual(str(inspect.signature(function)), "(" + wanted + ")", function)
