"""The package's files against the rules of its part of Python, as far as a reading of them shows it."""

import ast
import builtins
import pathlib
import re
import unittest

import lastroads

FOLDER = pathlib.Path(lastroads.__file__).parent

STATEMENTS = (
    ast.Assign, ast.AugAssign, ast.AnnAssign, ast.If, ast.While, ast.For, ast.Return, ast.Break, ast.Continue,
    ast.Pass, ast.Raise, ast.Try, ast.Expr, ast.FunctionDef, ast.ClassDef, ast.ImportFrom,
)
EXPRESSIONS = (
    ast.BoolOp, ast.BinOp, ast.UnaryOp, ast.Lambda, ast.IfExp, ast.Dict, ast.Set, ast.ListComp, ast.Compare,
    ast.Call, ast.JoinedStr, ast.FormattedValue, ast.Constant, ast.Attribute, ast.Subscript, ast.Name, ast.List,
    ast.Tuple, ast.Slice,
)
TOP = (ast.Expr, ast.ImportFrom, ast.FunctionDef, ast.ClassDef, ast.Assign)
BUILT_IN = set(
    "len range enumerate zip min max sum abs sorted reversed int str bool list tuple dict set frozenset isinstance"
    " ord repr any all divmod Exception ValueError TypeError KeyError IndexError LookupError ZeroDivisionError"
    " ArithmeticError OverflowError RuntimeError NotImplementedError AttributeError StopIteration".split()
)
OWN_METHODS_OF_PYTHON = set(
    "append clear copy count endswith extend find get index insert isalnum isalpha isdigit islower isspace isupper"
    " items join keys ljust lower lstrip partition pop remove replace reverse rfind rjust rpartition rsplit rstrip"
    " setdefault split splitlines startswith strip update upper values zfill bit_length".split()
)
NOT_USED = set(
    "register mro elements open input version_info with_traceback add_note attrgetter breakpoint builtins compile"
    " copyright credits delattr dir eval exec exit gc getattr globals hasattr help id importlib license locals"
    " methodcaller os quit setattr super type vars sys".split()
)
WORDS = (
    r"\b(type|typing|typing_extensions|enum|Enum|IntEnum|StrEnum|Flag|IntFlag|Generic|Protocol|ABC|ABCMeta"
    r"|namedtuple|NamedTuple|TypedDict|TYPE_CHECKING|abstractmethod)\b|dataclass|overload|contextmanager"
)


def sources():
    return {path.name: path.read_text(encoding="utf-8") for path in sorted(FOLDER.glob("*.py"))}


def nodes(wanted):
    for name, text in sources().items():
        for node in ast.walk(ast.parse(text)):
            if isinstance(node, wanted):
                yield f"{name}:{getattr(node, 'lineno', 0)}", node


def bound_names():
    for where, node in nodes((ast.FunctionDef, ast.ClassDef, ast.arg, ast.Name, ast.ExceptHandler)):
        name = node.id if isinstance(node, ast.Name) else node.arg if isinstance(node, ast.arg) else node.name
        if name is not None and not (isinstance(node, ast.Name) and isinstance(node.ctx, ast.Load)):
            yield where, name


class Language(unittest.TestCase):
    def check(self, fine, where, what=""):
        with self.subTest(where=where):
            self.assertTrue(fine, f"{where} {what}")

    def test_files(self):
        for path in FOLDER.iterdir():
            if path.name != "__pycache__":
                self.check(re.fullmatch(r"(__init__|[a-z][a-z0-9_]*)\.py", path.name), path.name)

    def test_sizes_and_signs(self):
        for name, text in sources().items():
            self.check(len(text.splitlines()) <= 399, name)
            self.check(re.fullmatch(r"[ -~\n]*", text), name)
            self.check(max(len(line) for line in text.splitlines()) <= 120, name)
        for where, node in nodes(ast.FunctionDef):
            self.check(node.end_lineno - node.lineno < 40, where)

    def test_words(self):
        for name, text in sources().items():
            self.check(not re.search(WORDS, text), name)

    def test_tops(self):
        for name, text in sources().items():
            body = ast.parse(text).body
            self.check(ast.get_docstring(ast.parse(text)), name)
            for node in body[1:]:
                self.check(isinstance(node, TOP) and not isinstance(node, ast.Expr), f"{name}:{node.lineno}")

    def test_imports(self):
        drawn = {}
        for where, node in nodes(ast.ImportFrom):
            module = (node.module or "").split(".")
            self.check(node.level == 0 and len(module) == 2 and module[0] == "lastroads", where)
            drawn.setdefault(where.split(".")[0], set()).add(module[1])
            defined = ast.parse(sources()[module[1] + ".py"]).body
            names = [item.name for item in defined if isinstance(item, (ast.FunctionDef, ast.ClassDef))]
            names += [item.targets[0].id for item in defined if isinstance(item, ast.Assign)]
            for alias in node.names:
                self.check(alias.asname is None and alias.name in names, where, alias.name)
        while drawn:
            free = [name for name in drawn if not drawn[name] & set(drawn)]
            self.check(free, "a ring of imports", str(drawn))
            drawn = {name: drawn[name] for name in drawn if name not in free} if free else {}

    def test_statements_and_expressions(self):
        for where, node in nodes(ast.stmt):
            self.check(isinstance(node, STATEMENTS), where, ast.dump(node))
            if isinstance(node, ast.Assign):
                self.check(len(node.targets) == 1, where)
            if isinstance(node, (ast.For, ast.While)):
                self.check(not node.orelse, where)
            if isinstance(node, ast.Try):
                self.check(not node.finalbody and all(handler.type for handler in node.handlers), where)
        for where, node in nodes(ast.expr):
            self.check(isinstance(node, EXPRESSIONS), where, ast.dump(node))
            if isinstance(node, ast.ListComp):
                self.check(len(node.generators) == 1 and len(node.generators[0].ifs) <= 1, where)
            if isinstance(node, ast.Constant):
                self.check(node.value is None or isinstance(node.value, (int, str)), where)
            if isinstance(node, ast.Compare) and isinstance(node.ops[0], (ast.Is, ast.IsNot)):
                self.check(isinstance(node.comparators[0], ast.Constant), where)
        for where, node in nodes(ast.operator):
            self.check(not isinstance(node, (ast.Div, ast.MatMult)), where)

    def test_functions_and_classes(self):
        for where, node in nodes(ast.FunctionDef):
            self.check(not node.decorator_list, where)
            self.check(not node.args.vararg and not node.args.kwarg and not node.args.kwonlyargs, where)
        for where, node in nodes(ast.ClassDef):
            self.check(not node.decorator_list and not node.keywords and len(node.bases) <= 1, where)
            self.check(all(isinstance(item, ast.FunctionDef) for item in node.body), where)

    def test_names(self):
        for where, name in bound_names():
            fine = re.fullmatch(r"[A-Za-z][A-Za-z0-9_]*", name) or name in ("__init__", "__eq__", "__repr__", "__len__")
            self.check(fine, where, name)
            self.check(name not in dir(builtins), where, name)
        for where, node in nodes((ast.Name, ast.Attribute)):
            name = node.id if isinstance(node, ast.Name) else node.attr
            self.check(name not in NOT_USED, where, name)

    def test_names_of_python(self):
        for name, text in sources().items():
            tree = ast.parse(text)
            named = (ast.FunctionDef, ast.ClassDef, ast.alias)
            bound = {item.name for item in ast.walk(tree) if isinstance(item, named)}
            bound |= {item.arg for item in ast.walk(tree) if isinstance(item, ast.arg)}
            bound |= {item.name for item in ast.walk(tree) if isinstance(item, ast.ExceptHandler)}
            names = [item for item in ast.walk(tree) if isinstance(item, ast.Name)]
            bound |= {item.id for item in names if isinstance(item.ctx, ast.Store)}
            for item in names:
                self.check(item.id in bound | BUILT_IN, f"{name}:{item.lineno}", item.id)

    def test_no_local_is_called_like_an_import_or_a_class(self):
        for name, text in sources().items():
            tree = ast.parse(text)
            taken = {alias.name for item in tree.body if isinstance(item, ast.ImportFrom) for alias in item.names}
            taken |= {item.name for item in tree.body if isinstance(item, ast.ClassDef)}
            for item in ast.walk(tree):
                if isinstance(item, ast.arg):
                    self.check(item.arg not in taken, f"{name}:{item.lineno}", item.arg)
                if isinstance(item, ast.Name) and isinstance(item.ctx, ast.Store):
                    self.check(item.id not in taken, f"{name}:{item.lineno}", item.id)

    def test_ranges_and_their_like_are_not_kept(self):
        at_once = ("range", "enumerate", "zip", "reversed")
        for where, node in nodes((ast.Assign, ast.Return)):
            if isinstance(node.value, ast.Call) and isinstance(node.value.func, ast.Name):
                self.check(node.value.func.id not in at_once, where)

    def test_keywords(self):
        for where, node in nodes(ast.Call):
            for keyword in node.keywords:
                allowed = {"sorted": ("key", "reverse"), "min": ("key", "default"), "max": ("key", "default")}
                self.check(keyword.arg in allowed.get(getattr(node.func, "id", None), ()), where, keyword.arg)

    def test_no_power_of_two_is_raised(self):
        for where, node in nodes(ast.BinOp):
            self.check(not isinstance(node.op, ast.Pow), where)

    def test_methods(self):
        own = {node.name for _, node in nodes(ast.FunctionDef)}
        for where, node in nodes(ast.Call):
            if isinstance(node.func, ast.Attribute):
                self.check(node.func.attr in OWN_METHODS_OF_PYTHON | own, where, node.func.attr)

    def test_each_name_once(self):
        for name, text in sources().items():
            seen = []
            for node in ast.parse(text).body:
                if isinstance(node, (ast.FunctionDef, ast.ClassDef)):
                    seen.append(node.name)
                if isinstance(node, ast.Assign):
                    seen.append(node.targets[0].id)
                if isinstance(node, ast.ImportFrom):
                    seen += [alias.name for alias in node.names]
            self.check(len(seen) == len(set(seen)), name, str(seen))

    def test_the_interface_stands_in_its_file_alone(self):
        found = [where.split(":")[0] for where, node in nodes(ast.FunctionDef) if node.name == "answers"]
        self.assertEqual(found, ["network.py"])
        function = [node for _, node in nodes(ast.FunctionDef) if node.name == "answers"][0]
        self.assertEqual([item.arg for item in function.args.args], ["calls"])


if __name__ == "__main__":
    unittest.main()
