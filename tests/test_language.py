"""The rules of the language that a short look at the code can see, and where the interface stands."""

import ast
import builtins
import pathlib
import re
import unittest

PACKAGE = pathlib.Path(__file__).resolve().parent.parent / "eachplace"
FILES = sorted(PACKAGE.glob("*.py"))
TREES = {path.stem: ast.parse(path.read_text()) for path in FILES}

ALLOWED_BUILTINS = set(
    "len range enumerate zip min max sum abs sorted reversed int str bool bytes list tuple dict set isinstance ord "
    "repr any all divmod ValueError KeyError iter next".split()
)
BARRED_WORDS = re.compile(
    r"\b(type|typing|typing_extensions|enum|Enum|IntEnum|StrEnum|Flag|IntFlag|Generic|Protocol|ABC|ABCMeta|namedtuple|"
    r"NamedTuple|TypedDict|TYPE_CHECKING|abstractmethod)\b|dataclass|overload|contextmanager"
)
BARRED_NODES = (
    ast.Global, ast.AsyncFunctionDef, ast.AsyncFor, ast.AsyncWith, ast.Await, ast.Div, ast.Import, ast.MatMult,
)
BUILTIN_METHODS = set(
    "append clear copy count endswith extend find get index insert isalnum isalpha isdigit islower isspace isupper items "
    "join keys ljust lower lstrip partition pop remove replace reverse rfind rjust rpartition rsplit rstrip setdefault "
    "split splitlines startswith strip update upper values zfill bit_length removeprefix removesuffix".split()
)
INTERFACE = {
    "errors": {"EachError": None, "NoText": None, "TooWide": None, "NoRow": None},
    "names": {"is_name": ["thing"]},
    "casts": {"is_cast": ["thing"]},
    "standings": {
        "is_standing": ["cast", "thing"],
        "length_of": ["standing"],
        "size_of": ["standing"],
        "place_of": ["cast", "standing", "name"],
        "number_at": ["cast", "standing", "row", "place"],
    },
    "sums": {"is_sum": ["cast", "thing"], "worth": ["cast", "standing", "one"]},
    "sayings": {"is_saying": ["cast", "thing"], "atoms_in": ["saying"], "needed": ["cast", "saying"]},
    "holding": {"holds": ["cast", "standing", "saying"]},
    "sayingtexts": {
        "show_sum": ["one"],
        "show_saying": ["saying"],
        "read_sum": ["cast", "text"],
        "read_saying": ["cast", "text"],
    },
    "standingtexts": {
        "show_cast": ["cast"],
        "show_standing": ["cast", "standing"],
        "read_cast": ["text"],
        "read_standing": ["cast", "text"],
    },
    "differences": {"solved": ["edges"]},
    "bounds": {"bounded": ["edges"]},
    "facts": {
        "put_for": ["saying", "name", "place"],
        "opened": ["fact", "strange"],
        "used": ["fact", "places"],
    },
    "checker": {"is_paper": ["cast", "saying", "thing", "most"]},
    "deciding": {"decided": ["cast", "saying"]},
    "least": {"least_break": ["cast", "saying"]},
    "turnings": {"turned": ["cast", "standing", "turning"], "joined": ["one", "other"]},
    "carrying": {"carried": ["cast", "saying", "turning"]},
    "programs": {"is_program": ["thing"], "heads_of": ["program"]},
    "runs": {"run": ["program", "standing", "most"], "askings": ["program", "standing", "most"]},
    "legs": {"legs_of": ["program"], "along": ["program", "leg", "standing"]},
    "judging": {"claim_of": ["program", "leg"], "judged": ["program"]},
    "forms": {"kept_of": ["program", "forms"]},
    "desk": {"Desk": None},
    "programtexts": {"show_program": ["program"], "read_program": ["text"]},
}


def bound_names(tree):
    """Each name that functions and classes of the file bind, parameters too."""
    for node in ast.walk(tree):
        if isinstance(node, (ast.FunctionDef, ast.ClassDef)):
            yield node.name
        elif isinstance(node, ast.arg):
            yield node.arg
        elif isinstance(node, ast.Name) and not isinstance(node.ctx, ast.Load):
            yield node.id


def imports_of(tree):
    return [node for node in ast.walk(tree) if isinstance(node, ast.ImportFrom)]


def defined_at_top(tree):
    names = []
    for node in tree.body:
        if isinstance(node, (ast.FunctionDef, ast.ClassDef)):
            names.append(node.name)
        elif isinstance(node, ast.Assign):
            names.extend(target.id for target in node.targets)
    return names


class LanguageTest(unittest.TestCase):
    def test_files(self):
        others = [path.name for path in PACKAGE.iterdir() if path.suffix != ".py" and path.name != "__pycache__"]
        self.assertEqual(others, [])
        for path in FILES:
            self.assertRegex(path.stem, r"\A([a-z][a-z0-9_]*|__init__|__main__)\Z")
            self.assertNotIn(path.stem, dir(builtins))

    def test_lines_and_signs(self):
        for path in FILES:
            text = path.read_text()
            self.assertRegex(text, r"\A[\n -~]*\Z", path)
            self.assertIsNone(BARRED_WORDS.search(text), path)
            self.assertLessEqual(len(text.splitlines()), 399, path)
            self.assertLessEqual(max(map(len, text.splitlines()), default=0), 120, path)

    def test_functions_are_short(self):
        for stem, tree in TREES.items():
            for node in ast.walk(tree):
                if isinstance(node, ast.FunctionDef):
                    self.assertLessEqual(node.end_lineno - node.lineno + 1, 40, (stem, node.name))

    def test_imports(self):
        for stem, tree in TREES.items():
            for node in imports_of(tree):
                self.assertRegex(node.module, r"\Aeachplace\.[a-z]+\Z", stem)
                source = TREES[node.module.partition(".")[2]]
                for alias in node.names:
                    self.assertIn(alias.name, defined_at_top(source), stem)

    def test_no_files_import_each_other(self):
        left = {
            stem: {node.module.partition(".")[2] for node in imports_of(tree)} for stem, tree in TREES.items()
        }
        while left:
            free = [stem for stem in left if not left[stem] & set(left)]
            self.assertNotEqual(free, [], left)
            for stem in free:
                del left[stem]

    def test_module_level(self):
        plain = (ast.ImportFrom, ast.FunctionDef, ast.ClassDef, ast.Assign)
        for stem, tree in TREES.items():
            for node in tree.body:
                docstring = node is tree.body[0] and ast.get_docstring(tree) is not None
                self.assertTrue(docstring or isinstance(node, plain), (stem, node.lineno))
            names = defined_at_top(tree) + [alias.name for node in imports_of(tree) for alias in node.names]
            self.assertEqual(len(set(names)), len(names), stem)

    def test_names(self):
        for stem, tree in TREES.items():
            imported = {alias.name for node in imports_of(tree) for alias in node.names}
            for name in bound_names(tree):
                if name == "__init__":
                    continue
                self.assertRegex(name, r"\A[A-Za-z][A-Za-z0-9_]*\Z", stem)
                self.assertNotIn(name, dir(builtins), stem)
                self.assertNotIn(name, imported, stem)

    def test_builtins(self):
        for stem, tree in TREES.items():
            for node in ast.walk(tree):
                if isinstance(node, ast.Name) and node.id in dir(builtins):
                    self.assertIn(node.id, ALLOWED_BUILTINS, (stem, node.lineno))

    def test_barred_forms(self):
        for stem, tree in TREES.items():
            for node in ast.walk(tree):
                self.assertNotIsInstance(node, BARRED_NODES, stem)
                if isinstance(node, ast.Constant):
                    self.assertNotIsInstance(node.value, (float, complex), (stem, node.lineno))
                if isinstance(node, ast.Compare):
                    for sign, other in zip(node.ops, node.comparators):
                        if isinstance(sign, (ast.Is, ast.IsNot)):
                            self.assertIn(getattr(other, "value", 0), (None, True, False), (stem, node.lineno))


    def test_methods_and_attributes(self):
        nodes = [node for tree in TREES.values() for node in ast.walk(tree)]
        methods = {
            part.name for node in nodes if isinstance(node, ast.ClassDef) for part in node.body
            if isinstance(part, ast.FunctionDef)
        }
        attributes = [node for node in nodes if isinstance(node, ast.Attribute)]
        assigned = {node.attr for node in attributes if isinstance(node.ctx, ast.Store)}
        self.assertEqual(methods & assigned, set())
        for node in attributes:
            self.assertIn(node.attr, methods | assigned | BUILTIN_METHODS, node.lineno)
            # That of a base class is called by name, and nothing else that begins so.
            if node.attr != "__init__":
                self.assertNotRegex(node.attr, r"\A_", node.lineno)
        self.assertEqual(assigned & BUILTIN_METHODS, set())
        self.assertEqual((methods - {"__init__"}) & BUILTIN_METHODS, set())

    def test_generator_expressions_stand_directly_in_calls(self):
        allowed = {"any", "all", "sum", "min", "max", "sorted", "tuple", "list", "dict", "join"}
        for stem, tree in TREES.items():
            inside = set()
            for node in ast.walk(tree):
                if isinstance(node, ast.Call):
                    name = getattr(node.func, "id", getattr(node.func, "attr", None))
                    if name in allowed and not node.keywords:
                        inside |= {id(arg) for arg in node.args}
                    for arg in node.args:
                        lazy = isinstance(arg, ast.Call) and getattr(arg.func, "id", None) in ("zip", "range", "enumerate")
                        plain = name in allowed | {"enumerate", "zip"}
                        self.assertTrue(plain or not lazy, (stem, node.lineno))
            for node in ast.walk(tree):
                if isinstance(node, ast.GeneratorExp):
                    self.assertIn(id(node), inside, (stem, node.lineno))

    def test_strings_and_sets(self):
        for stem, tree in TREES.items():
            for node in ast.walk(tree):
                if isinstance(node, ast.Constant) and isinstance(node.value, str):
                    self.assertNotIn("%", node.value, (stem, node.lineno))
                self.assertNotIsInstance(node, (ast.Set, ast.SetComp, ast.Pow, ast.NamedExpr), (stem, node))


class InterfaceTest(unittest.TestCase):
    def test_each_is_defined_where_it_is_listed(self):
        for stem, listed in INTERFACE.items():
            nodes = {node.name: node for node in TREES[stem].body if hasattr(node, "name")}
            for name, arguments in listed.items():
                self.assertIn(name, nodes, stem)
                if arguments is None:
                    self.assertIsInstance(nodes[name], ast.ClassDef)
                else:
                    self.assertIsInstance(nodes[name], ast.FunctionDef)
                    self.assertEqual([arg.arg for arg in nodes[name].args.args], arguments, name)

    def test_methods_stand_in_their_class(self):
        desk = [node for node in TREES["desk"].body if getattr(node, "name", None) == "Desk"][0]
        methods = {node.name: [arg.arg for arg in node.args.args] for node in desk.body if isinstance(node, ast.FunctionDef)}
        self.assertEqual(methods["__init__"], ["self", "cast"])
        self.assertEqual(methods["say"], ["self", "row"])


if __name__ == "__main__":
    unittest.main()
