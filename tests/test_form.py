"""The form of the code: the interface of the document, and the rules of LANGUAGE.md that are quickly checked."""

import ast
import builtins
import importlib
import inspect
import pathlib
import re
import unittest

PACKAGE = pathlib.Path(__file__).parent.parent / "seenmarks"

BARRED_WORDS = {
    "type", "typing", "typing_extensions", "enum", "Enum", "IntEnum", "StrEnum", "Flag", "IntFlag", "Generic",
    "Protocol", "ABC", "ABCMeta", "namedtuple", "NamedTuple", "TypedDict", "TYPE_CHECKING", "abstractmethod",
}
BARRED_ANYWHERE = ["dataclass", "overload", "contextmanager"]
BARRED_NAMES = {"register", "mro", "elements", "open", "input", "law", "version_info", "with_traceback", "add_note"}

BUILTINS = {
    "len", "range", "enumerate", "zip", "min", "max", "sum", "abs", "sorted", "reversed", "int", "str", "bool", "bytes",
    "list", "tuple", "dict", "set", "isinstance", "ord", "repr", "any", "all", "divmod", "ValueError", "TypeError",
    "KeyError", "staticmethod", "property",
}
METHODS_OF_BUILTINS = {
    "append", "clear", "copy", "count", "endswith", "extend", "find", "get", "index", "insert", "isalnum", "isalpha",
    "isdigit", "islower", "isspace", "isupper", "items", "join", "keys", "ljust", "lower", "lstrip", "partition", "pop",
    "remove", "replace", "reverse", "rfind", "rjust", "rpartition", "rsplit", "rstrip", "setdefault", "split",
    "splitlines", "startswith", "strip", "update", "upper", "values", "zfill", "bit_length", "isascii", "add",
    "discard",
}
BARRED_NODES = (
    ast.AsyncFunctionDef, ast.Await, ast.Global, ast.GeneratorExp, ast.Lambda, ast.NamedExpr, ast.Import, ast.Div,
    ast.AnnAssign, ast.Match,
)

CALLS = {
    ("fields", "Fields"): "(words)",
    ("kinds", "Kind"): "(name, fields, *, single=False)",
    ("kinds", "Schema"): "(kinds)",
    ("tags", "Tag"): "(resource, cover, count)",
    ("drafts", "Draft"): "()",
    ("servers", "Server"): "(schema)",
    ("caches", "Cache"): "(source, *, drops=True)",
    ("templates", "Template"): "(name, variables)",
    ("templates", "attempt"): "(source, template, resources, compute, *, tries=3)",
    ("catalogs", "Catalog"): "(schema, templates)",
    ("histories", "replay"): "(catalog, history)",
    ("histories", "reads"): "(catalog, history)",
    ("histories", "dependencies"): "(catalog, history)",
    ("histories", "history_text"): "(history)",
    ("histories", "read_history"): "(text)",
    ("orders", "serial"): "(catalog, history)",
    ("orders", "is_order"): "(catalog, history, order)",
    ("orders", "is_cycle"): "(catalog, history, cycle)",
    ("pivots", "pivot"): "(catalog, name, variable)",
    ("pivots", "is_pivot"): "(catalog, name, variable, history)",
    ("pivots", "is_closed"): "(catalog, name, variable, nodes)",
    ("pivots", "pivots"): "(catalog)",
    ("pivots", "judge"): "(catalog)",
    ("pivots", "unnoticed"): "(catalog, name, variable)",
    ("pivots", "needless"): "(catalog, name, variable)",
    ("covers", "smallest_cover"): "(catalog, name, variable)",
    ("covers", "too_small"): "(catalog, name, variable)",
    ("covers", "with_smallest_covers"): "(catalog)",
    ("covers", "parted"): "(catalog, name, variable, one, other)",
}
METHODS = {
    ("fields", "Fields", "words"): "(self)",
    ("fields", "Fields", "meets"): "(self, other)",
    ("fields", "Fields", "within"): "(self, other)",
    ("kinds", "Kind", "fields"): "(self)",
    ("kinds", "Schema", "names"): "(self)",
    ("kinds", "Schema", "is_resource"): "(self, thing)",
    ("tags", "Tag", "cover"): "(self)",
    ("tags", "Tag", "text"): "(self)",
    ("tags", "Tag", "of_text"): "(text)",
    ("drafts", "Draft", "require"): "(self, tag)",
    ("drafts", "Draft", "drop"): "(self, resource, field)",
    ("drafts", "Draft", "tags"): "(self)",
    ("drafts", "Draft", "writes"): "(self)",
    ("servers", "Copy", "tag"): "(self, cover)",
    ("servers", "Server", "read"): "(self, resource)",
    ("servers", "Server", "latest"): "(self, resource)",
    ("servers", "Server", "handle"): "(self, draft)",
    ("servers", "Server", "log"): "(self)",
    ("servers", "Server", "history"): "(self)",
    ("servers", "Server", "changes"): "(self, resource)",
    ("caches", "Cache", "read"): "(self, resource)",
    ("caches", "Cache", "latest"): "(self, resource)",
    ("caches", "Cache", "stored"): "(self)",
    ("caches", "Cache", "forget"): "(self, resource)",
    ("caches", "Cache", "handle"): "(self, draft)",
    ("caches", "Cache", "offline"): "(self, work, *things)",
    ("caches", "Cache", "is_offline"): "(self)",
    ("templates", "Template", "variables"): "(self)",
    ("templates", "Template", "__call__"): "(self, copies, values)",
    ("catalogs", "Catalog", "names"): "(self)",
    ("catalogs", "Catalog", "with_cover"): "(self, name, variable, cover)",
    ("catalogs", "Catalog", "text"): "(self)",
    ("catalogs", "Catalog", "of_text"): "(text)",
}
STATIC_METHODS = [("tags", "Tag", "of_text"), ("catalogs", "Catalog", "of_text")]
PROPERTIES = [("servers", "Server", "handled")]
SIGNS = {
    ("fields", "Fields"): ["__or__", "__ror__", "__and__", "__rand__", "__sub__", "__rsub__", "__xor__", "__rxor__",
                           "__len__", "__contains__", "__bool__", "__eq__"],
    ("kinds", "Kind"): ["__eq__"],
    ("kinds", "Schema"): ["__getitem__", "__contains__", "__len__", "__eq__"],
    ("tags", "Tag"): ["__eq__"],
    ("drafts", "Draft"): ["__getitem__", "__setitem__", "__contains__", "__len__"],
    ("servers", "Copy"): ["__getitem__", "__contains__"],
    ("templates", "Template"): ["__eq__"],
    ("catalogs", "Catalog"): ["__getitem__", "__contains__", "__len__", "__eq__"],
}


def sources():
    return sorted(path for path in PACKAGE.rglob("*.py"))


def trees():
    return [(path.name, ast.parse(path.read_text("ascii"))) for path in sources()]


def defined(module, name):
    return vars(importlib.import_module("seenmarks." + module))[name]


class Interface(unittest.TestCase):
    def test_classes_and_functions_are_defined_in_their_files(self):
        for (module, name), parameters in CALLS.items():
            self.assertEqual(defined(module, name).__module__, "seenmarks." + module)
            self.assertEqual(str(inspect.signature(defined(module, name))), parameters)

    def test_methods_are_defined_in_their_classes(self):
        for (module, name, method), parameters in METHODS.items():
            self.assertEqual(str(inspect.signature(vars(defined(module, name))[method])), parameters)

    def test_static_methods_and_properties(self):
        for module, name, method in STATIC_METHODS:
            self.assertIs(type(vars(defined(module, name))[method]), staticmethod)
        for module, name, method in PROPERTIES:
            self.assertIs(type(vars(defined(module, name))[method]), property)

    def test_signs_are_defined_in_their_classes(self):
        for (module, name), methods in SIGNS.items():
            for method in methods:
                self.assertIn(method, vars(defined(module, name)))


class Language(unittest.TestCase):
    def test_l1_and_l14_files(self):
        for path in PACKAGE.rglob("*"):
            if "__pycache__" not in path.parts:
                self.assertRegex(path.name, r"^(__init__|[a-z][a-z0-9_]*)\.py$")

    def test_l2_and_l16_imports(self):
        for name, tree in trees():
            for node in ast.walk(tree):
                self.assertNotIsInstance(node, ast.Import, name)
                if isinstance(node, ast.ImportFrom):
                    self.assertRegex(node.module, r"^seenmarks\.[a-z]+$")
                    for alias in node.names:
                        value = defined(node.module.split(".")[1], alias.name)
                        self.assertEqual(getattr(value, "__module__", node.module), node.module)

    def test_l10_size(self):
        for path in sources():
            lines = path.read_text("ascii").split("\n")
            self.assertLessEqual(len(lines), 400, path.name)
            self.assertLessEqual(max(map(len, lines)), 120, path.name)
        for name, tree in trees():
            for node in ast.walk(tree):
                if isinstance(node, ast.FunctionDef):
                    self.assertLessEqual(node.end_lineno - node.lineno + 1, 40, (name, node.name))

    def test_l14_characters(self):
        for path in sources():
            self.assertRegex(path.read_text("utf-8"), r"\A[ -~\n]*\Z")

    def test_l17_words(self):
        for path in sources():
            text = path.read_text("ascii")
            self.assertEqual(BARRED_WORDS & set(re.findall(r"[A-Za-z0-9_]+", text)), set(), path.name)
            self.assertEqual([word for word in BARRED_ANYWHERE if word in text], [], path.name)

    def test_l12_and_l17_names(self):
        for name, tree in trees():
            for node in ast.walk(tree):
                for part in ["id", "attr", "arg", "name"]:
                    word = getattr(node, part, None)
                    if isinstance(word, str):
                        self.assertRegex(word, r"^([A-Za-z]|__[a-z]+__$)", name)
                        self.assertNotIn(word, BARRED_NAMES, name)

    def test_l7_and_l6_what_this_package_does_without(self):
        for name, tree in trees():
            for node in ast.walk(tree):
                self.assertNotIsInstance(node, BARRED_NODES, name)
                if isinstance(node, ast.Constant):
                    self.assertNotIsInstance(node.value, (float, complex, bytes), name)
                if isinstance(node, ast.Constant) and isinstance(node.value, str):
                    self.assertNotIn("%", node.value, name)

    def test_l8_builtins_are_called_and_keep_their_meaning(self):
        for name, tree in trees():
            nodes = list(ast.walk(tree))
            for node in nodes:
                if isinstance(node, ast.Name) and node.id in vars(builtins):
                    self.assertIsInstance(node.ctx, ast.Load, (name, node.id))
                    self.assertIn(node.id, BUILTINS, name)
                if isinstance(node, (ast.arg, ast.FunctionDef, ast.ClassDef)):
                    self.assertNotIn(getattr(node, "arg", None) or node.name, vars(builtins), name)

    def test_l15_names_of_classes_and_imports_have_one_meaning(self):
        for name, tree in trees():
            taken = [alias.name for row in tree.body if isinstance(row, ast.ImportFrom) for alias in row.names]
            taken += [row.name for row in tree.body if isinstance(row, (ast.ClassDef, ast.FunctionDef))]
            self.assertEqual(len(set(taken)), len(taken), name)
            for node in ast.walk(tree):
                if isinstance(node, ast.Name) and isinstance(node.ctx, ast.Store):
                    self.assertNotIn(node.id, taken, name)
                if isinstance(node, ast.arg):
                    self.assertNotIn(node.arg, taken, name)

    def test_l16_no_circles_of_imports(self):
        imports = {name: {node.module.split(".")[1] + ".py" for node in tree.body if isinstance(node, ast.ImportFrom)}
                   for name, tree in trees()}
        while imports:
            free = [name for name in imports if not imports[name] & set(imports)]
            self.assertTrue(free, imports)
            for name in free:
                del imports[name]

    def test_l20_is(self):
        for name, tree in trees():
            for node in ast.walk(tree):
                if isinstance(node, ast.Compare):
                    for sign, value in zip(node.ops, node.comparators):
                        if isinstance(sign, (ast.Is, ast.IsNot)):
                            self.assertIn(getattr(value, "value", 0), [None, True, False], name)

    def test_l25_methods(self):
        own = {node.name for name, tree in trees() for node in ast.walk(tree) if isinstance(node, ast.FunctionDef)}
        for name, tree in trees():
            for node in ast.walk(tree):
                if isinstance(node, ast.Call) and isinstance(node.func, ast.Attribute):
                    self.assertIn(node.func.attr, METHODS_OF_BUILTINS | own, name)

    def test_l18_attributes_that_are_read_are_assigned(self):
        stored, read = set(), set()
        for name, tree in trees():
            called = {id(node.func) for node in ast.walk(tree) if isinstance(node, ast.Call)}
            for node in ast.walk(tree):
                if isinstance(node, ast.FunctionDef):
                    stored.add(node.name)
                if isinstance(node, ast.Attribute) and isinstance(node.ctx, ast.Store):
                    stored.add(node.attr)
                if isinstance(node, ast.Attribute) and isinstance(node.ctx, ast.Load) and id(node) not in called:
                    read.add(node.attr)
        self.assertLessEqual(read, stored)

    def test_l18_methods_and_attributes_have_other_names(self):
        methods, attributes = set(), set()
        for name, tree in trees():
            for node in ast.walk(tree):
                if isinstance(node, ast.ClassDef):
                    methods |= {row.name for row in node.body if isinstance(row, ast.FunctionDef)}
                if isinstance(node, ast.Attribute) and isinstance(node.ctx, ast.Store):
                    attributes.add(node.attr)
        self.assertEqual(methods & attributes, set())


if __name__ == "__main__":
    unittest.main()
