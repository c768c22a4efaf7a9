"""The form of the package: what can be checked of the language rules, and the names of the interface."""

import ast
import builtins
import inspect
import os
import re
import unittest

from cutwalks import (
    changes, errors, helpers, knowledge, loops, meetings, ranges, rows, session, starts, store, texts, walks)

FOLDER = os.path.dirname(os.path.abspath(errors.__file__))

BUILTINS = """
    len range enumerate zip min max sum abs sorted reversed int str bool bytes list tuple dict set frozenset
    isinstance ord repr any all divmod pow getattr hasattr setattr iter next map type super property
    staticmethod classmethod Exception ValueError TypeError KeyError IndexError LookupError ZeroDivisionError
    ArithmeticError OverflowError RuntimeError NotImplementedError AttributeError StopIteration NotImplemented
""".split()

LIBRARY = {
    "heapq": ["heappush", "heappop", "heapify", "heapreplace", "heappushpop"],
    "math": ["gcd", "lcm", "isqrt", "comb", "perm", "factorial"],
    "itertools": ["product", "combinations", "permutations", "chain", "accumulate", "pairwise", "islice", "zip_longest"],
    "collections": ["defaultdict", "deque"],
}

DOUBLE_UNDERSCORES = """
    init eq repr str len enter exit call iter lt le gt ge ne add sub mul floordiv mod pow and or xor lshift rshift
    radd rsub rmul rfloordiv rmod rand ror rxor rlshift rrshift iadd isub imul ifloordiv imod ipow iand ior ixor
    ilshift irshift neg pos invert abs bool contains getitem setitem
""".split()

METHODS_OF_VALUES = """
    append clear copy count endswith extend find get index insert isalnum isalpha isdigit islower isspace isupper items
    join keys ljust lower lstrip partition pop remove replace reverse rfind rjust rpartition rsplit rstrip setdefault
    split splitlines startswith strip update upper values zfill bit_length
""".split()

BARRED = """
    register mro elements open input law attrgetter breakpoint builtins compile copyright credits delattr dir eval exec
    exit gc getattr globals hasattr help id importlib license locals methodcaller os quit setattr super type vars sys
""".split()

BARRED_WORDS = """
    type typing typing_extensions enum Enum IntEnum StrEnum Flag IntFlag Generic Protocol ABC ABCMeta namedtuple
    NamedTuple TypedDict TYPE_CHECKING abstractmethod dataclass overload contextmanager _wall _WallAttr
""".split()

ERRORS = """
    CutError InvalidRow InvalidSettings InvalidPlace InvalidRanges InvalidChange InvalidCuts InvalidLoop
    InvalidPieces InvalidKind InvalidName InvalidSpans InvalidNumber TooLarge NothingToUndo Clash InvalidText
""".split()

# name, names of the arguments
FUNCTIONS = {
    walks: {
        "next_cut": ["row", "settings", "place"],
        "walk": ["row", "settings", "start"],
        "first_from": ["row", "settings", "start", "place"],
        "cuts_within": ["row", "settings", "start", "low", "high"],
        "settings_for": ["row", "cuts"],
    },
    ranges: {
        "image": ["row", "settings", "ranges"],
        "first_cuts": ["row", "settings", "ranges", "place"],
    },
    meetings: {
        "entries": ["row", "settings", "place"],
        "meeting": ["row", "settings", "first", "second"],
        "sure_cut": ["row", "settings", "place"],
        "last_apart": ["row", "settings", "place"],
        "apart": ["row", "settings", "place", "far"],
        "meeting_paper": ["row", "settings", "place"],
        "shows_meeting": ["row", "settings", "place", "thing"],
    },
    starts: {
        "basin": ["row", "settings", "cut"],
        "share": ["row", "settings", "cut"],
        "sure_for": ["row", "settings", "ranges"],
        "partners": ["row", "settings", "start"],
    },
    helpers: {
        "fewest_marks": ["settings", "is_strict"],
        "helping_marks": ["settings", "place", "is_strict"],
        "taken": ["row", "settings", "place"],
        "needed": ["row", "settings", "place"],
    },
    changes: {
        "rejoin": ["row", "settings", "change"],
        "effect": ["row", "settings", "change"],
        "entries_behind": ["row", "settings", "begin", "end", "length"],
        "latest_rejoin": ["row", "settings", "begin", "end", "length"],
        "earliest_rejoin": ["row", "settings", "begin", "end", "length"],
        "worst_change": ["row", "settings", "begin", "end", "length"],
        "best_change": ["row", "settings", "begin", "end", "length"],
    },
    loops: {
        "loop_step": ["loop", "settings", "place"],
        "ring_of": ["loop", "settings", "place"],
        "rings": ["loop", "settings"],
        "turning": ["loop", "settings"],
        "mean": ["loop", "settings"],
        "never_meet": ["loop", "settings"],
        "loop_meeting": ["loop", "settings", "first", "second"],
    },
    knowledge: {
        "kinds_at": ["length", "settings", "pieces", "place"],
        "steps_from": ["length", "settings", "pieces", "place"],
        "possible_cuts": ["length", "settings", "pieces", "start"],
        "sure_cuts": ["length", "settings", "pieces", "start"],
        "row_through": ["length", "settings", "pieces", "start", "place"],
        "row_around": ["length", "settings", "pieces", "start", "place"],
    },
    texts: {
        "write_row": ["row"],
        "read_row": ["text"],
        "write_settings": ["settings"],
        "read_settings": ["text"],
        "write_change": ["change"],
        "read_change": ["text"],
    },
    session: {"session": ["rows"]},
}
# class, names of the arguments of its methods, its properties, and its methods with double underscores
CLASSES = [
    (rows.Row, {
        "__init__": ["self", "length", "marks", "strict"],
        "with_marks": ["self", "places", "is_strict"],
        "without_marks": ["self", "places"],
        "joined": ["self", "other", "kind"],
        "part": ["self", "begin", "end"],
        "changed": ["self", "change"],
    }, ["length", "marks", "strict"], ["__len__", "__contains__", "__eq__"]),
    (loops.Loop, {
        "__init__": ["self", "period", "marks", "strict"],
        "moved": ["self", "number"],
        "repeated": ["self", "times"],
    }, ["period", "marks", "strict"], ["__eq__"]),
    (store.Store, {
        "__init__": ["self", "settings", "marking", "strict"],
        "add": ["self", "name", "spans"],
        "drop": ["self", "name"],
        "cuts_of": ["self", "name"],
        "pieces_of": ["self", "name"],
        "alone": ["self", "names"],
        "shared": ["self", "name", "other"],
        "undo": ["self"],
        "mark": ["self"],
        "undo_to": ["self", "index"],
        "twin": ["self"],
    }, ["stored"], ["__len__"]),
]


def package_files():
    """The paths of all files of the package, below its folder."""
    paths = []
    for folder, folders, names in os.walk(FOLDER):
        folders[:] = [name for name in folders if name != "__pycache__"]
        paths += [os.path.relpath(os.path.join(folder, name), FOLDER) for name in names]
    return sorted(paths)


def read(name):
    with open(os.path.join(FOLDER, name), encoding="utf-8") as file:
        return file.read()


def nodes(kind):
    """(file, node) for all nodes of a kind in the package."""
    for name in package_files():
        for node in ast.walk(ast.parse(read(name))):
            if isinstance(node, kind):
                yield name, node


INTERFACE = ERRORS + [name for functions in FUNCTIONS.values() for name in functions]
INTERFACE += [name for _, methods, properties, _ in CLASSES for name in [*methods, *properties]]


class FormTest(unittest.TestCase):
    def test_the_folder_holds_only_modules(self):
        for name in package_files():
            self.assertTrue(name.endswith(".py"), name)
            for part in name[:-3].split(os.sep):
                self.assertTrue(part.replace("_", "a").isalnum() and part == part.lower(), name)

    def test_files_lines_and_signs(self):
        for name in package_files():
            lines = read(name).split("\n")
            self.assertLessEqual(len(lines), 400, name)
            for line in lines:
                self.assertLessEqual(len(line), 120, (name, line))
                self.assertTrue(all(" " <= sign <= "~" for sign in line), (name, line))

    def test_functions_have_at_most_forty_lines(self):
        for name, node in nodes(ast.FunctionDef):
            self.assertLessEqual(node.end_lineno - node.lineno + 1, 40, (name, node.name))

    def test_imports_name_the_file_that_defines(self):
        self.assertEqual([name for name, _ in nodes(ast.Import) if name != "__main__.py"], [])
        for name, node in nodes(ast.ImportFrom):
            self.assertEqual(node.level, 0, name)
            if node.module == "__future__":
                continue
            for alias in node.names:
                self.assertIsNone(alias.asname, name)
                if node.module in LIBRARY:
                    self.assertIn(alias.name, LIBRARY[node.module], name)
                    continue
                package, _, module = node.module.partition(".")
                self.assertEqual(package, "cutwalks", name)
                tree = ast.parse(read(module.replace(".", "/") + ".py"))
                self.assertIn(alias.name, [told for part in tree.body for told in names_bound(part)], name)

    def test_builtins(self):
        for name, node in nodes(ast.Name):
            if hasattr(builtins, node.id):
                self.assertIn(node.id, BUILTINS, (name, node.lineno))

    def test_strings_have_no_percent_sign(self):
        for name, node in nodes(ast.Constant):
            if isinstance(node.value, str):
                self.assertNotIn("%", node.value, (name, node.lineno))
            self.assertNotIsInstance(node.value, (float, complex), (name, node.lineno))

    def test_what_is_not_in_the_language(self):
        for name, node in nodes((ast.AsyncFunctionDef, ast.Await, ast.Div)):
            self.fail((name, node))

    def test_identity_is_asked_of_none_true_and_false(self):
        for name, node in nodes(ast.Compare):
            for sign, right in zip(node.ops, node.comparators):
                if isinstance(sign, (ast.Is, ast.IsNot)):
                    self.assertIsInstance(right, ast.Constant, (name, node.lineno))

    def test_double_underscores_and_decorators(self):
        for name, node in nodes(ast.FunctionDef):
            if node.name.startswith("__"):
                self.assertIn(node.name.strip("_"), DOUBLE_UNDERSCORES, name)
            for decorator in node.decorator_list:
                told = ast.unparse(decorator)
                self.assertTrue(
                    told in ("property", "staticmethod", "classmethod") or told.endswith(".setter"), (name, told))


    def test_local_names_are_no_imports_classes_or_builtins(self):
        for name in package_files():
            tree = ast.parse(read(name))
            barred = {alias.name for part in ast.walk(tree) if isinstance(part, ast.ImportFrom) for alias in part.names}
            barred |= {part.name for part in tree.body if isinstance(part, ast.ClassDef)}
            for part in ast.walk(tree):
                if isinstance(part, ast.arg):
                    told = part.arg
                elif isinstance(part, ast.Name) and isinstance(part.ctx, ast.Store):
                    told = part.id
                else:
                    continue
                self.assertNotIn(told, barred, (name, part.lineno))
                self.assertFalse(hasattr(builtins, told), (name, told))
                self.assertNotIn(told, BARRED, (name, part.lineno))

    def test_methods_that_are_called(self):
        own = {node.name for _, node in nodes(ast.FunctionDef)}
        for name, node in nodes(ast.Call):
            if isinstance(node.func, ast.Attribute):
                self.assertIn(node.func.attr, METHODS_OF_VALUES + sorted(own), (name, node.lineno))
                # The store has a method of this name, so sets are not changed by theirs.
                self.assertNotIn(node.func.attr, ["add", "discard"], (name, node.lineno))

    def test_no_name_is_a_method_and_an_attribute(self):
        methods = {part.name for _, node in nodes(ast.ClassDef) for part in node.body if isinstance(part, ast.FunctionDef)}
        for name, node in nodes(ast.Attribute):
            if isinstance(node.ctx, ast.Store):
                self.assertNotIn(node.attr, methods, (name, node.lineno))
                for kind in (str, int, list, dict, set, bytes):
                    self.assertFalse(hasattr(kind, node.attr), (name, node.attr))
        for told in methods - {"add"}:
            if not told.startswith("__"):
                for kind in (str, int, list, dict, set, bytes):
                    self.assertFalse(hasattr(kind, told), told)

    def test_no_imports_go_round(self):
        found = {}
        for name, node in nodes(ast.ImportFrom):
            found.setdefault(name[:-3], set()).add((node.module or "").partition(".")[2])
        for start in found:
            seen, waiting = set(), sorted(found[start])
            while waiting:
                name = waiting.pop()
                self.assertNotEqual(name, start)
                if name not in seen:
                    seen.add(name)
                    waiting += sorted(found.get(name, ()))

    def test_words_that_do_not_occur(self):
        for name in package_files():
            for word in BARRED_WORDS:
                found = re.findall(r"\b" + word + r"\b(?!\()", read(name))
                self.assertEqual(found, [], (name, word))

    def test_every_import_and_function_is_used(self):
        texts_read = {name: read(name) for name in package_files()}
        for name, node in nodes(ast.ImportFrom):
            for alias in node.names:
                self.assertGreater(len(re.findall(r"\b" + alias.name + r"\b", texts_read[name])), 1, (name, alias.name))
        for name, node in nodes((ast.FunctionDef, ast.ClassDef)):
            if not node.name.startswith("__"):
                self.assertIsNotNone(ast.get_docstring(node), (name, node.name))
                told = sum(len(re.findall(r"\b" + node.name + r"\b", text)) for text in texts_read.values())
                self.assertTrue(told > 1 or node.name in INTERFACE, (name, node.name))


def names_bound(node):
    """The names that a statement at module level binds by itself."""
    if isinstance(node, (ast.FunctionDef, ast.ClassDef)):
        return [node.name]
    if isinstance(node, ast.Assign):
        return [target.id for target in node.targets]
    if isinstance(node, ast.AnnAssign):
        return [node.target.id]
    return []


class InterfaceTest(unittest.TestCase):
    def test_functions_are_defined_in_their_files(self):
        for module, functions in FUNCTIONS.items():
            for name, arguments in functions.items():
                function = getattr(module, name)
                self.assertEqual(function.__module__, module.__name__)
                self.assertEqual(list(inspect.signature(function).parameters), arguments)

    def test_methods_are_defined_in_the_class(self):
        for kind, methods, properties, others in CLASSES:
            for name, arguments in methods.items():
                self.assertEqual(list(inspect.signature(vars(kind)[name]).parameters), arguments)
            for name in properties:
                self.assertIsInstance(vars(kind)[name], property)
            for name in others:
                self.assertIn(name, vars(kind))

    def test_classes_are_defined_in_their_files(self):
        self.assertEqual(rows.Row.__module__, "cutwalks.rows")
        self.assertEqual(loops.Loop.__module__, "cutwalks.loops")
        self.assertEqual(store.Store.__module__, "cutwalks.store")

    def test_errors_are_defined_in_their_file(self):
        for name in ERRORS:
            self.assertEqual(getattr(errors, name).__module__, "cutwalks.errors")


if __name__ == "__main__":
    unittest.main()
