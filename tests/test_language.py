"""The package keeps to the plain part of Python that it is written in, as far as a look at the code shows."""

import ast
import builtins
import pathlib
import re
import unittest

PACKAGE = pathlib.Path(__file__).resolve().parent.parent / "loopcube"

BUILTINS = set(
    "len range enumerate zip min max sum abs sorted reversed int str bool bytes list tuple dict set frozenset "
    "isinstance ord repr any all divmod Exception ValueError TypeError KeyError IndexError LookupError "
    "ZeroDivisionError ArithmeticError OverflowError RuntimeError NotImplementedError AttributeError "
    "StopIteration NotImplemented".split()
)
METHODS = set(
    "append clear copy count endswith extend find get index insert isalnum isalpha isdigit islower isspace isupper "
    "items join keys ljust lower lstrip partition pop remove replace reverse rfind rjust rpartition rsplit rstrip "
    "setdefault split splitlines startswith strip update upper values zfill bit_length sort add discard".split()
)
BARRED_WORDS = set(
    "type typing typing_extensions enum Enum IntEnum StrEnum Flag IntFlag Generic Protocol ABC ABCMeta namedtuple "
    "NamedTuple TypedDict TYPE_CHECKING abstractmethod dataclass overload contextmanager".split()
)
BARRED_NAMES = set(
    "register mro elements open input version_info with_traceback add_note attrgetter breakpoint builtins compile "
    "copyright credits delattr dir eval exec exit gc getattr globals hasattr help id importlib license locals "
    "methodcaller os quit setattr super vars sys chr print".split()
)
BARRED_STEPS = (ast.Global, ast.AsyncFunctionDef, ast.AsyncFor, ast.AsyncWith, ast.Await, ast.Div, ast.Import)


def sources():
    """The files with their texts and trees."""
    for path in sorted(PACKAGE.glob("*.py")):
        text = path.read_text("utf-8")
        yield path, text, ast.parse(text)


def defined(tree):
    """The names that a file binds itself at module level."""
    names = set()
    for step in tree.body:
        if isinstance(step, (ast.FunctionDef, ast.ClassDef)):
            names.add(step.name)
        elif isinstance(step, ast.Assign):
            names.update(target.id for target in step.targets)
    return names


class Language(unittest.TestCase):
    def test_folder(self):
        for path in PACKAGE.iterdir():
            if path.name != "__pycache__":
                self.assertRegex(path.name, r"^([a-z][a-z0-9_]*|__init__)\.py$")

    def test_sizes_and_signs(self):
        for path, text, tree in sources():
            rows = text.split("\n")
            self.assertLessEqual(len(rows), 401, path.name)
            for row in rows:
                self.assertLessEqual(len(row), 120, path.name)
                self.assertRegex(row, r"^[ -~]*$")
            for step in ast.walk(tree):
                if isinstance(step, ast.FunctionDef):
                    self.assertLessEqual(step.end_lineno - step.lineno + 1, 40, step.name)

    def test_words(self):
        for path, text, tree in sources():
            self.assertFalse(BARRED_WORDS & set(re.findall(r"\w+", text)), path.name)

    def test_imports(self):
        trees = {path.stem: tree for path, text, tree in sources()}
        needs = {}
        for stem, tree in trees.items():
            needs[stem] = set()
            for step in ast.walk(tree):
                if isinstance(step, ast.ImportFrom):
                    self.assertIn(step, tree.body)
                    self.assertEqual(step.level, 0)
                    package, source = step.module.split(".")
                    self.assertEqual(package, "loopcube")
                    self.assertLessEqual({name.name for name in step.names}, defined(trees[source]))
                    needs[stem].add(source)
        while needs:
            free = [stem for stem in needs if not needs[stem] & set(needs)]
            self.assertTrue(free, "files import from each other")
            for stem in free:
                del needs[stem]

    def test_module_level(self):
        for path, text, tree in sources():
            for at, step in enumerate(tree.body):
                if at == 0:
                    self.assertIsNotNone(ast.get_docstring(tree), path.name)
                else:
                    self.assertIsInstance(step, (ast.ImportFrom, ast.FunctionDef, ast.ClassDef, ast.Assign))
                if isinstance(step, ast.Assign):
                    ast.literal_eval(step.value)

    def test_names(self):
        for path, text, tree in sources():
            bound = defined(tree)
            imports = [step for step in tree.body if isinstance(step, ast.ImportFrom)]
            imported = {name.asname or name.name for step in imports for name in step.names}
            classes = {step.name for step in tree.body if isinstance(step, ast.ClassDef)}
            for step in ast.walk(tree):
                if isinstance(step, ast.Name) and isinstance(step.ctx, ast.Store):
                    local = step.id
                elif isinstance(step, ast.arg):
                    local = step.arg
                else:
                    continue
                self.assertRegex(local, r"^[A-Za-z][A-Za-z0-9_]*$")
                self.assertNotIn(local, set(dir(builtins)) | BARRED_NAMES | imported | classes, path.name)
            stored = {step.id for step in ast.walk(tree) if isinstance(step, ast.Name) and step.id not in bound}
            self.assertFalse((stored & set(dir(builtins))) - BUILTINS, path.name)

    def test_methods_and_attributes(self):
        own = set()
        for path, text, tree in sources():
            for step in ast.walk(tree):
                if isinstance(step, ast.ClassDef):
                    own.update(part.name for part in step.body if isinstance(part, ast.FunctionDef))
        for path, text, tree in sources():
            for step in ast.walk(tree):
                if isinstance(step, ast.Call) and isinstance(step.func, ast.Attribute):
                    self.assertIn(step.func.attr, METHODS | own, path.name)

    def test_stars_and_what_is_iterated_at_once(self):
        # Behind a star only what is written out or named; what is iterated at once is given no name.
        plain = (ast.Name, ast.Attribute, ast.Constant, ast.List, ast.Tuple)
        at_once = {"zip", "enumerate", "reversed", "range"}
        for path, text, tree in sources():
            for step in ast.walk(tree):
                if isinstance(step, ast.Call):
                    for part in step.args:
                        if isinstance(part, ast.Starred):
                            self.assertIsInstance(part.value, plain, path.name)
                if isinstance(step, (ast.Assign, ast.Return)) and isinstance(step.value, ast.Call):
                    deed = step.value.func
                    self.assertNotIn(getattr(deed, "id", None), at_once, path.name)
                    self.assertNotIn(getattr(deed, "attr", None), {"items", "keys", "values"}, path.name)

    def test_methods_and_attributes_have_names_of_their_own(self):
        methods, attributes = set(), set()
        for path, text, tree in sources():
            for step in ast.walk(tree):
                if isinstance(step, ast.ClassDef):
                    methods.update(part.name for part in step.body if isinstance(part, ast.FunctionDef))
                if isinstance(step, ast.Attribute) and isinstance(step.ctx, ast.Store):
                    attributes.add(step.attr)
        self.assertFalse(methods & attributes)

    def test_steps(self):
        for path, text, tree in sources():
            for step in ast.walk(tree):
                self.assertNotIsInstance(step, BARRED_STEPS, path.name)
                if isinstance(step, ast.Constant):
                    self.assertNotIsInstance(step.value, (float, complex), path.name)
                    if isinstance(step.value, str):
                        self.assertNotIn(chr(37), step.value)
                if isinstance(step, ast.BinOp) and isinstance(step.op, ast.Pow):
                    self.assertIn(getattr(step.right, "value", None), range(65), path.name)
                if isinstance(step, ast.Compare) and isinstance(step.ops[0], (ast.Is, ast.IsNot)):
                    self.assertIn(getattr(step.comparators[0], "value", "else"), (None, True, False), path.name)


if __name__ == "__main__":
    unittest.main()
