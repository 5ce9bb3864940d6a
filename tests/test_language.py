"""The package's files keep to the plain part of Python that they are written in, and to the interface."""

import ast
import importlib
import inspect
import pathlib
import unittest

FOLDER = pathlib.Path(__file__).resolve().parent.parent / "servedalone"
FILES = sorted(FOLDER.glob("**/*.py"))
BUILTINS = set("""
    len range enumerate zip min max sum abs sorted reversed int str bool list tuple dict set isinstance ord repr any
    all divmod iter property staticmethod classmethod super ValueError TypeError KeyError ZeroDivisionError
""".split())
METHODS_LEFT_OUT = {"__hash__", "__getattr__", "__setattr__", "__new__", "__next__", "__del__", "__call__"}
SUMS_OF_LISTS = {"any", "all", "min", "max", "sum", "sorted"}

LIBRARY = {"math": {"gcd", "lcm", "isqrt", "comb", "perm", "factorial"}}

# For each file, what the interface lists: functions with their parameters, classes with their methods.
INTERFACE = {
    "errors": {
        "ServeError": None,
        "InvalidNumber": {"__init__": "self, number"},
        "InvalidLetter": {"__init__": "self, letter"},
        "NoRoom": {"__init__": "self, many"},
        "NotHeld": {"__init__": "self, block"},
        "NotAlone": {"__init__": "self, block"},
        "NoRequest": {"__init__": "self, ticket"},
        "NoHouse": {"__init__": "self, house"},
        "TooLarge": {"__init__": "self, ticket"},
    },
    "nets": {
        "Net": {
            "__init__": "self, prime, embed, shift, layers, out, end", "letters": "self", "row": "self, rows, letter",
        },
        "greatest": "weights",
        "by_number": "weights, number",
    },
    "asks": {
        "Ask": {
            "__init__": "self, prompt, most, *, stops=(), tape=(), rule=None", "choice": "self, weights, text",
        },
    },
    "rules": {
        "Rule": {
            "__init__": "self, start, steps", "after": "self, text", "lets": "self, text, letter",
            "__eq__": "self, other",
        },
    },
    "plain": {"rows_of": "net, letters", "weights_behind": "net, letters", "written": "net, ask, *, begun=()"},
    "stores": {
        "Store": {
            "__init__": "self, many, size", "take": "self", "hold": "self, block", "release": "self, block",
            "put_row": "self, block, row", "shorten": "self, block, many", "rows": "self, block",
            "holders": "self, block", "free": "self",
        },
    },
    "tables": {
        "Table": {
            "__init__": "self, store", "rows": "self", "put_row": "self, row", "take_over": "self, block",
            "exchange_last": "self, block", "cut": "self, many", "fork": "self",
        },
    },
    "trees": {
        "Tree": {
            "__init__": "self, store", "known": "self, letters", "put": "self, path, block", "drop": "self",
            "__len__": "self", "__iter__": "self",
        },
    },
    "streams": {"held_back": "stops, text"},
    "houses": {
        "House": {
            "__init__": "self, net, many, size", "come_back": "cls, net, many, size, log", "reckoned": "self",
            "ask": "self, ask", "word": "self, ticket", "text": "self, ticket", "blocks_of": "self, ticket",
            "length_of": "self, ticket", "going": "self", "step": "self, plan", "put_off": "self, ticket",
            "swap_out": "self, ticket", "swap_in": "self, ticket", "is_out": "self, ticket",
            "fork": "self, ticket, tape", "cancel": "self, ticket", "guess": "self, ticket, guesses",
            "sendable": "self, ticket", "deliver": "self, ticket", "delivered": "self, ticket", "log": "self",
        },
    },
    "guesses": {"lesser_guesses": "house, ticket, lesser, many"},
    "fleets": {
        "Fleet": {
            "__init__": "self, net, shapes", "ask": "self, ask", "place": "self, ticket", "house": "self, house",
            "move": "self, ticket, to", "fall": "self, house", "deliver": "self, ticket", "word": "self, ticket",
            "text": "self, ticket",
        },
    },
    "planners": {"needed": "house, ticket", "turn": "house", "serve": "house"},
    "shares": {
        "Share": {
            "__init__": "self, over, under", "__add__": "self, other", "__sub__": "self, other",
            "__mul__": "self, other", "__eq__": "self, other", "is_below": "self, other",
        },
        "lesser_of": "share, other",
    },
    "chances": {
        "next_shares": "net, letters", "text_share": "net, prompt, text",
        "round_shares": "net, lesser, prompt, many", "told_shares": "net, ask, text",
    },
    "beams": {"plain_beams": "net, prompt, wide, most", "beams_in": "house, prompt, wide, most"},
    "audits": {"holders": "house", "faults": "house", "distinct": "rows", "blocks_together": "rows, size"},
    "deadlines": {"deadline_plan": "needs"},
    "batches": {"rows_in_batch": "net, jobs"},
    "crews": {
        "Crew": {
            "__init__": "self, net, many", "begin": "self, rows, letter", "waiting": "self",
            "deliver": "self, number", "double": "self, number", "lose": "self, number", "row": "self",
        },
    },
    "shelves": {"write_paths": "house", "warm": "house, shelf"},
    "deeds": {"do": "house, deed", "picture": "house", "redo": "net, many, size, deeds"},
    "fairness": {
        "Fair": {
            "__init__": "self, weights", "choose": "self, members", "plan": "self, members, budget", "tally": "self",
        },
    },
    "journals": {"write_deeds": "deeds", "read_deeds": "text"},
    "forests": {"guess_best": "house, ticket, forest"},
    "snapshots": {"snapshot": "house", "restore": "net, saved"},
    "wires": {
        "packets": "house, ticket, size",
        "Receiver": {"__init__": "self", "take": "self, packet", "text": "self", "is_whole": "self"},
    },
}
# Methods that change the list or dict that they are called of.
CHANGING = {"append", "clear", "extend", "insert", "pop", "remove", "reverse", "setdefault", "update", "sort"}


def parsed(path):
    return ast.parse(path.read_text())


def same_lists(function):
    """For each name in the function, the names that may be the same list, since one is assigned to the other."""
    same = {}
    for node in ast.walk(function):
        if isinstance(node, ast.Assign):
            values = [node.value]
            if isinstance(node.value, (ast.IfExp, ast.BoolOp)):
                values = [part for part in ast.walk(node.value) if isinstance(part, (ast.Name, ast.Attribute))]
            names = {ast.unparse(part) for part in node.targets + values
                     if isinstance(part, (ast.Name, ast.Attribute))}
            joined = names.union(*[same.get(name, set()) for name in names])
            same.update({name: joined for name in joined})
    return same


def gone_over(loop):
    """The names and attributes that a loop or a comprehension goes over, straight or through enumerate and the like."""
    heads = [loop.iter] if isinstance(loop, ast.For) else [part.iter for part in loop.generators]
    found = set()
    while heads:
        head = heads.pop()
        if isinstance(head, ast.Call) and isinstance(head.func, ast.Name):
            # What list, sorted and own functions give is another list.
            heads += head.args if head.func.id in ("enumerate", "zip", "reversed") else []
        elif isinstance(head, ast.Call):
            heads += [head.func.value] if head.func.attr in ("items", "keys", "values") else []
        elif isinstance(head, (ast.Name, ast.Attribute)):
            found.add(ast.unparse(head))
    return found


def changed_in(loop):
    """The names and attributes of lists and dicts that are changed in the loop."""
    found = set()
    for node in ast.walk(loop):
        if isinstance(node, ast.Call) and isinstance(node.func, ast.Attribute) and node.func.attr in CHANGING:
            found.add(ast.unparse(node.func.value))
        elif isinstance(node, ast.Subscript) and isinstance(node.ctx, (ast.Store, ast.Del)):
            found.add(ast.unparse(node.value))
        elif isinstance(node, ast.AugAssign) and isinstance(node.target, (ast.Name, ast.Attribute)):
            found.add(ast.unparse(node.target))
    return found


class Files(unittest.TestCase):
    def test_there_are_files_of_python_alone(self):
        self.assertIn(FOLDER / "__init__.py", FILES)
        others = [path for path in FOLDER.rglob("*") if path.is_file() and "__pycache__" not in path.parts]
        self.assertEqual(sorted(others), FILES)

    def test_characters_and_lengths(self):
        for path in FILES:
            text = path.read_bytes().decode("ascii")
            self.assertEqual([sign for sign in text if sign != "\n" and not " " <= sign <= "~"], [], path)
            lines = text.split("\n")
            self.assertEqual(lines[-1], "", path)
            self.assertLessEqual(len(lines) - 1, 399, path)
            self.assertLessEqual(max(len(line) for line in lines), 120, path)

    def test_functions_are_short(self):
        for path in FILES:
            for node in ast.walk(parsed(path)):
                if isinstance(node, ast.FunctionDef):
                    self.assertLessEqual(node.end_lineno - node.lineno + 1, 40, (path, node.name))

    def test_every_part_has_a_docstring(self):
        for path in FILES:
            tree = parsed(path)
            self.assertTrue(ast.get_docstring(tree), path)
            for node in ast.walk(tree):
                if isinstance(node, (ast.FunctionDef, ast.ClassDef)) and not node.name.startswith("__"):
                    self.assertTrue(ast.get_docstring(node), (path, node.name))


class Statements(unittest.TestCase):
    def each(self):
        for path in FILES:
            for node in ast.walk(parsed(path)):
                yield path, node

    def test_imports_name_the_very_file(self):
        needs = {}
        for path in FILES:
            needs[path.stem] = set()
            for node in ast.walk(parsed(path)):
                self.assertNotIsInstance(node, ast.Import, path)
                if isinstance(node, ast.ImportFrom) and node.module in LIBRARY:
                    self.assertLessEqual({alias.name for alias in node.names}, LIBRARY[node.module], path)
                elif isinstance(node, ast.ImportFrom):
                    package, _, name = node.module.partition(".")
                    self.assertEqual((package, node.level), ("servedalone", 0), path)
                    needs[path.stem].add(name)
                    made = {part.name for part in parsed(FOLDER / (name + ".py")).body if hasattr(part, "name")}
                    self.assertLessEqual({alias.name for alias in node.names}, made, path)
        while needs:
            free = [name for name in needs if not needs[name] & set(needs)]
            self.assertTrue(free, "files that import from each other")
            needs = {name: needs[name] for name in needs if name not in free}

    def test_every_import_is_used(self):
        for path in FILES:
            tree = parsed(path)
            used = {node.id for node in ast.walk(tree) if isinstance(node, ast.Name)}
            for node in ast.walk(tree):
                if isinstance(node, ast.ImportFrom):
                    self.assertLessEqual({alias.name for alias in node.names}, used, path)

    def test_what_is_left_out_of_the_language(self):
        left_out = (
            ast.Global, ast.AsyncFunctionDef, ast.AsyncFor, ast.AsyncWith, ast.Await, ast.Div, ast.MatMult,
            ast.Yield, ast.YieldFrom, ast.Set, ast.AnnAssign, ast.NamedExpr, ast.With,
        )
        for path, node in self.each():
            self.assertNotIsInstance(node, left_out, (path, getattr(node, "lineno", None)))
            if isinstance(node, ast.Constant):
                self.assertNotIsInstance(node.value, (float, complex, bytes), path)
            if isinstance(node, ast.FunctionDef):
                self.assertNotIn(node.name, METHODS_LEFT_OUT, path)

    def test_only_errors_of_the_package_are_caught(self):
        for path, node in self.each():
            if isinstance(node, ast.Try):
                self.assertEqual(node.finalbody, [], path)
                for handler in node.handlers:
                    self.assertIn(handler.type.id, INTERFACE["errors"], (path, handler.lineno))

    def test_what_a_loop_goes_over_is_not_changed_in_it(self):
        for path, node in self.each():
            if isinstance(node, ast.FunctionDef):
                same = same_lists(node)
                for loop in ast.walk(node):
                    if isinstance(loop, (ast.For, ast.ListComp, ast.DictComp)):
                        over = set().union(*[same.get(name, {name}) for name in gone_over(loop)])
                        self.assertEqual(over & changed_in(loop), set(), (path, loop.lineno))

    def test_the_check_of_loops_sees_other_names_of_a_list(self):
        text = """
def f(xs):
    now = [xs]
    for _ in xs:
        more = []
        for x in now:
            more.extend(x)
        now = more
"""
        function = ast.parse(text).body[0]
        loop = function.body[1].body[1]
        self.assertEqual((gone_over(loop), changed_in(loop)), ({"now"}, {"more"}))
        self.assertEqual(same_lists(function)["now"], {"now", "more"})

    def test_sums_take_lists(self):
        for path, node in self.each():
            if isinstance(node, ast.Call) and isinstance(node.func, ast.Name) and node.func.id in SUMS_OF_LISTS:
                for argument in node.args:
                    self.assertNotIsInstance(argument, ast.GeneratorExp, (path, node.lineno))

    def test_is_stands_beside_none_and_bools(self):
        for path, node in self.each():
            if isinstance(node, ast.Compare) and any(isinstance(sign, (ast.Is, ast.IsNot)) for sign in node.ops):
                self.assertIsInstance(node.comparators[-1], ast.Constant, (path, node.lineno))

    def test_names_of_builtins_mean_the_builtins(self):
        every = set(dir(importlib.import_module("builtins")))
        for path, node in self.each():
            if isinstance(node, ast.Name) and node.id in every:
                self.assertIn(node.id, BUILTINS, (path, node.lineno))
                self.assertIsInstance(node.ctx, ast.Load, (path, node.lineno))
            if isinstance(node, ast.arg):
                self.assertNotIn(node.arg, every, (path, node.lineno))

    def test_module_level_is_plain(self):
        for path in FILES:
            for node in parsed(path).body:
                kinds = (ast.ImportFrom, ast.FunctionDef, ast.ClassDef, ast.Assign, ast.Expr)
                self.assertIsInstance(node, kinds, (path, node.lineno))
                if isinstance(node, (ast.Assign, ast.Expr)):
                    ast.literal_eval(node.value)


class Names(unittest.TestCase):
    def setUp(self):
        self.methods, self.properties, self.attributes = set(), set(), set()
        for path in FILES:
            for node in ast.walk(parsed(path)):
                if isinstance(node, ast.ClassDef):
                    for part in node.body:
                        if isinstance(part, ast.FunctionDef):
                            marks = [getattr(mark, "id", None) for mark in part.decorator_list]
                            (self.properties if "property" in marks else self.methods).add(part.name)
                if isinstance(node, ast.Attribute) and isinstance(node.ctx, ast.Store):
                    self.attributes.add(node.attr)
                    self.assertIsInstance(node.value, ast.Name, (path, node.lineno))

    def test_a_name_is_a_method_or_a_property_or_an_attribute(self):
        self.assertEqual(self.properties & (self.methods | self.attributes), set())
        # An error keeps the house that is none, and a fleet gives a house.
        self.assertEqual(self.methods & self.attributes, {"house"})

    def test_no_name_is_that_of_a_method_of_builtin_values(self):
        builtin = {name for kind in (int, str, bytes, list, tuple, dict, set) for name in dir(kind)}
        own = self.methods | self.properties | self.attributes
        self.assertEqual({name for name in own & builtin if not name.startswith("__")}, set())

    def test_what_is_imported_keeps_its_meaning(self):
        for path in FILES:
            nodes = list(ast.walk(parsed(path)))
            fixed = {alias.name for node in nodes if isinstance(node, ast.ImportFrom) for alias in node.names}
            fixed |= {node.name for node in nodes if isinstance(node, ast.ClassDef)}
            for node in nodes:
                if isinstance(node, ast.Name) and isinstance(node.ctx, ast.Store):
                    self.assertNotIn(node.id, fixed, (path, node.lineno))
                if isinstance(node, ast.arg):
                    self.assertNotIn(node.arg, fixed, (path, node.lineno))


class Interface(unittest.TestCase):
    def test_functions_and_classes_stand_in_their_files(self):
        for file, parts in INTERFACE.items():
            module = importlib.import_module("servedalone." + file)
            for name, told in parts.items():
                self.assertEqual(getattr(module, name).__module__, "servedalone." + file)
                if isinstance(told, str):
                    self.assert_parameters(getattr(module, name), told)
                for method, parameters in (told.items() if isinstance(told, dict) else ()):
                    found = vars(getattr(module, name))[method]
                    if isinstance(found, property):
                        found = found.fget
                    if isinstance(found, classmethod):
                        found = found.__func__
                    self.assert_parameters(found, parameters)

    def assert_parameters(self, function, wanted):
        self.assertEqual(str(inspect.signature(function)), "(" + wanted + ")", function)
