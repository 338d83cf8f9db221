"""The package keeps to its small language, as far as a look at its files can tell, and to its interface."""

import ast
import builtins
import pathlib
import unittest

PACKAGE = pathlib.Path(__file__).resolve().parent.parent / "writeorders"

BUILTINS = set("""
    len range enumerate zip min max sum abs sorted reversed int str bool bytes list tuple dict set frozenset
    isinstance ord repr any all divmod map iter next super property staticmethod classmethod
    Exception ValueError TypeError KeyError IndexError LookupError ZeroDivisionError ArithmeticError
    OverflowError RuntimeError NotImplementedError AttributeError StopIteration NotImplemented
""".split())

METHODS = set("""
    append clear copy count endswith extend find get index insert isalnum isalpha isdigit islower isspace
    isupper items join keys ljust lower lstrip partition pop remove replace reverse rfind rjust rpartition
    rsplit rstrip setdefault split splitlines startswith strip update upper values zfill bit_length title
    capitalize swapcase casefold center expandtabs removeprefix removesuffix rindex isascii isdecimal
    isnumeric istitle isidentifier isprintable translate sort add discard
""".split())

NEVER_NAMES = set("""
    register mro elements open input law version_info with_traceback add_note attrgetter breakpoint builtins
    compile copyright credits delattr dir eval exec exit gc getattr globals hasattr help id importlib license
    locals methodcaller os quit setattr type vars sys typing enum
""".split())

LIBRARY = {
    "heapq": {"heappush", "heappop", "heapify", "heapreplace", "heappushpop"},
    "math": {"gcd", "lcm", "isqrt", "comb", "perm", "factorial"},
    "itertools": {"product", "combinations", "permutations"},
}

NEVER_NODES = (
    ast.Import, ast.Global, ast.AsyncFunctionDef, ast.AsyncFor, ast.AsyncWith, ast.Await, ast.Div, ast.MatMult,
    ast.TryStar,
)

INTERFACE = {
    "images": {
        "is_name": ["thing"], "is_image": ["thing"], "first_image": ["nodes", "pages"], "disk_pages": ["image"],
        "slots_of": ["image", "page"], "with_slots": ["image", "page", "slots"],
        "page_of_node": ["image", "node"], "page_of_data": ["image", "page"], "place_of_bit": ["image", "page"],
    },
    "changes": {
        "goes_along": ["changes", "page"], "put_on": ["image", "changes"],
        "is_closed": ["changes", "numbers"], "closed_of": ["changes", "numbers"],
    },
    "looker": {"come_to": ["image"], "breaks": ["image"], "leaks": ["image"]},
    "deeds": {"is_deed": ["thing"]},
    "stops": {"tree_of": ["image"], "put_by": ["image", "changes", "later"], "written_of": ["system"]},
    "wishes": {"wish": ["system", "path"]},
    "rules": {"broken_without": ["word"]},
    "stopping": {"all_images": ["system", "deeds"]},
    "texts": {"shown": ["image"], "read": ["text"]},
}

CLASSES = {
    ("trees", "Tree"): {
        "__init__": [], "do": ["deed"], "sort_at": ["path"], "names": ["path"], "read": ["path"], "paths": [],
        "many_names": ["path"], "copy": [], "__eq__": ["other"], "filled": ["kinds", "texts", "kids"],
    },
    ("system", "System"): {
        "__init__": ["image"], "do": ["deed"], "sort_at": ["path"], "names": ["path"], "read": ["path"],
        "many_names": ["path"], "paths": [], "tree": [], "changes": [], "begun": [], "node_of": ["path"],
        "name_places": ["path"], "add_change": ["page", "puts", "leans"], "lower": ["node", "many"],
        "let_go": ["node", "pages"], "write": ["page"], "unwritten": [], "clean": [], "least": [],
        "is_written": ["number"], "disk": [], "memory": [], "writings": [], "play": ["steps"], "log": [], "twin": [],
        "__eq__": ["other"],
    },
    ("mender", "Mender"): {"__init__": ["system"], "mend": ["leak"], "leaks": [], "mended": [], "__len__": []},
    ("desk", "Desk"): {"__init__": [], "say": ["row"]},
}

# Arguments behind a star, with the worths that they have when they are left out.
BEHIND_A_STAR = {
    ("system", "__init__"): {"without": ()},
    ("stopping", "all_images"): {"most": 400},
}


def files():
    return sorted(PACKAGE.glob("*.py"))


def trees():
    return {path.stem: ast.parse(path.read_text()) for path in files()}


def defined(tree):
    """What a file binds by a statement of its own, imports left out."""
    told = []
    for part in tree.body:
        if isinstance(part, (ast.FunctionDef, ast.ClassDef)):
            told.append(part.name)
        elif isinstance(part, ast.Assign):
            told.extend(target.id for target in part.targets)
    return told


def bound(tree):
    """All names that are given a meaning anywhere in a file."""
    for part in ast.walk(tree):
        if isinstance(part, (ast.FunctionDef, ast.ClassDef)):
            yield part.name
        elif isinstance(part, ast.arg):
            yield part.arg
        elif isinstance(part, ast.Name) and not isinstance(part.ctx, ast.Load):
            yield part.id
        elif isinstance(part, ast.alias):
            yield part.asname or part.name


class Files(unittest.TestCase):
    def test_only_python_files_of_plain_names(self):
        for path in PACKAGE.iterdir():
            if path.name != "__pycache__":
                self.assertRegex(path.name, r"\A([a-z][a-z0-9_]*|__init__|__main__)\.py\Z")
        self.assertIn("__init__.py", [path.name for path in files()])

    def test_signs_and_sizes(self):
        for path in files():
            data = path.read_bytes()
            lines = data.decode("ascii").splitlines()
            self.assertTrue(all(sign == 10 or 32 <= sign <= 126 for sign in data), path.name)
            self.assertLess(len(lines), 400, path.name)
            self.assertLessEqual(max(map(len, lines)), 120, path.name)

    def test_functions_are_short(self):
        for name, tree in trees().items():
            for part in ast.walk(tree):
                if isinstance(part, ast.FunctionDef):
                    self.assertLessEqual(part.end_lineno - part.lineno, 39, (name, part.name))


class Language(unittest.TestCase):
    def test_imports(self):
        all_trees = trees()
        for name, tree in all_trees.items():
            for part in ast.walk(tree):
                if isinstance(part, ast.ImportFrom):
                    self.assertIn(part, tree.body)
                    self.assertEqual(part.level, 0)
                    words = {alias.name for alias in part.names}
                    if part.module in LIBRARY:
                        self.assertLessEqual(words, LIBRARY[part.module])
                    else:
                        package, _, source = part.module.partition(".")
                        self.assertEqual(package, "writeorders", name)
                        self.assertLessEqual(words, set(defined(all_trees[source])), name)

    def test_no_two_files_import_from_each_other(self):
        left = {
            name: {part.module.partition(".")[2] for part in tree.body if isinstance(part, ast.ImportFrom)} - {""}
            for name, tree in trees().items()
        }
        while left:
            free = [name for name, needs in left.items() if not needs & set(left)]
            self.assertTrue(free, "a ring of imports")
            for name in free:
                del left[name]

    def test_module_level(self):
        for name, tree in trees().items():
            for at, part in enumerate(tree.body):
                docstring = at == 0 and isinstance(part, ast.Expr) and isinstance(part.value, ast.Constant)
                kinds = (ast.ImportFrom, ast.FunctionDef, ast.ClassDef, ast.Assign)
                self.assertTrue(docstring or isinstance(part, kinds), (name, part.lineno))
            self.assertEqual(len(defined(tree)), len(set(defined(tree))), name)

    def test_no_statement_or_value_that_is_left_out(self):
        for name, tree in trees().items():
            for part in ast.walk(tree):
                self.assertNotIsInstance(part, NEVER_NODES, name)
                if isinstance(part, ast.Constant):
                    self.assertNotIsInstance(part.value, (float, complex), name)
                    if isinstance(part.value, str):
                        self.assertNotIn("%", part.value)

    def test_names(self):
        for name, tree in trees().items():
            for word in bound(tree):
                self.assertFalse(word in NEVER_NAMES or word in dir(builtins), (name, word))
                self.assertFalse(word.startswith(("_wall", "_pe_", "_dcw_", "_enum_", "_cm_", "_law_")), (name, word))
            for part in ast.walk(tree):
                if isinstance(part, ast.Name) and part.id in dir(builtins):
                    self.assertIn(part.id, BUILTINS, (name, part.lineno))

    def test_no_local_name_is_that_of_an_import_or_a_class(self):
        for name, tree in trees().items():
            taken = {alias.asname or alias.name for part in tree.body if isinstance(part, ast.ImportFrom)
                     for alias in part.names}
            taken |= {part.name for part in tree.body if isinstance(part, ast.ClassDef)}
            for part in ast.walk(tree):
                if isinstance(part, ast.arg):
                    self.assertNotIn(part.arg, taken, name)
                elif isinstance(part, ast.Name) and isinstance(part.ctx, ast.Store):
                    self.assertNotIn(part.id, taken, name)

    def test_sets_are_measured_sorted_or_asked_at_once(self):
        for name, tree in trees().items():
            allowed = []
            for part in ast.walk(tree):
                if isinstance(part, ast.Call) and isinstance(part.func, ast.Name) and part.func.id in ("sorted", "len"):
                    allowed.extend(part.args)
            for part in ast.walk(tree):
                self.assertNotIsInstance(part, (ast.Set, ast.SetComp, ast.GeneratorExp), name)
                if isinstance(part, ast.Call) and isinstance(part.func, ast.Name) and part.func.id == "set":
                    self.assertIn(part, allowed, (name, part.lineno))

    def test_methods(self):
        own = {part.name for tree in trees().values() for part in ast.walk(tree) if isinstance(part, ast.FunctionDef)}
        for name, tree in trees().items():
            for part in ast.walk(tree):
                if isinstance(part, ast.Call) and isinstance(part.func, ast.Attribute):
                    self.assertIn(part.func.attr, METHODS | own, (name, part.lineno))


class Interface(unittest.TestCase):
    def test_each_function_is_defined_in_its_file_with_its_arguments(self):
        all_trees = trees()
        for name, functions in INTERFACE.items():
            found = {part.name: part for part in all_trees[name].body if isinstance(part, ast.FunctionDef)}
            for word, arguments in functions.items():
                self.assertEqual([part.arg for part in found[word].args.args], arguments, (name, word))

    def test_each_method_is_defined_in_its_class_with_its_arguments(self):
        all_trees = trees()
        for (name, word), methods in CLASSES.items():
            body = [part for part in all_trees[name].body if isinstance(part, ast.ClassDef) and part.name == word]
            found = {part.name: part for part in body[0].body if isinstance(part, ast.FunctionDef)}
            for method, arguments in methods.items():
                told = [part.arg for part in found[method].args.args]
                self.assertEqual(told, ["self", *arguments], (name, word, method))

    def test_arguments_behind_a_star(self):
        told = {}
        for name, tree in trees().items():
            for part in ast.walk(tree):
                if isinstance(part, ast.FunctionDef) and part.args.kwonlyargs:
                    worths = [ast.literal_eval(worth) for worth in part.args.kw_defaults]
                    told[name, part.name] = dict(zip([arg.arg for arg in part.args.kwonlyargs], worths))
        self.assertEqual(told, BEHIND_A_STAR)

    def test_no_name_is_a_method_and_an_attribute(self):
        for name, tree in trees().items():
            for part in tree.body:
                if isinstance(part, ast.ClassDef):
                    methods = {row.name for row in part.body if isinstance(row, ast.FunctionDef)}
                    attributes = {
                        row.attr for row in ast.walk(part)
                        if isinstance(row, ast.Attribute) and isinstance(row.ctx, ast.Store)
                    }
                    self.assertFalse(methods & attributes, (name, part.name))


if __name__ == "__main__":
    unittest.main()
