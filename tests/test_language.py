"""The rules of LANGUAGE.md that can be told from the code of the package alone.

Not all rules are checked here: what is not looked at still has to be kept.
"""

import ast
import pathlib
import re
import unittest

from tests.walked import changed_rows

FOLDER = pathlib.Path(__file__).resolve().parent.parent / "whoseday"

# What the interface lists, file by file.
INTERFACE = {
    "errors.py": {
        "WhosedayError": [], "BadText": [], "BadName": [], "NoZone": [], "NoProgram": [],
        "NoRoute": [], "BadPiece": [], "BadNumber": [], "TooMany": [], "NothingToUndo": [],
        "BadKind": [], "BadRule": [], "BadOffsets": [], "NoHours": [], "BadChange": [],
        "BadLook": [], "TooWide": [], "NotTogether": [], "BadEntry": [], "OtherPrograms": [],
        "OtherRoutes": [], "NotARing": [], "NotHeld": [], "BadDeed": [],
    },
    "entries.py": {"Entry": ["__init__", "__eq__", "__add__", "__sub__"]},
    "nets.py": {"Net": [
        "__init__", "__eq__", "offset_of", "home_of", "targets_of", "rule_of", "with_zone",
        "with_offset", "with_program", "without_program", "with_home", "with_rule", "with_route",
        "without_route",
    ]},
    "copies.py": {
        "clock": [], "shown": [], "copied": [], "along": [], "carried": [], "moved_days": [],
    },
    "states.py": {"States": [
        "__init__", "__len__", "__contains__", "__iter__", "index_of", "at", "lead", "way",
    ]},
    "homes.py": {"comes_home": [], "strays": [], "settles": [], "Settled": ["days_after", "still"]},
    "pieces.py": {"Days": [
        "__init__", "__contains__", "__add__", "__or__", "least", "greatest", "goes_down", "goes_up",
        "next_from", "next_to", "moved", "same",
    ]},
    "days.py": {"days_at": [], "can_show": [], "drift": [], "after": [], "growth": []},
    "unknown.py": {"as_shown": [], "added": []},
    "spreads.py": {
        "Origin": ["__init__", "__eq__", "room"], "origins": [], "spread": [], "sums": [], "spread_walk": [],
        "spread_table": [],
    },
    "bands.py": {"is_right": [], "widest": [], "wrong": [], "right_minutes": [], "right_hours": []},
    "stairs.py": {"right_copies": [], "widest_after": []},
    "twins.py": {"parting_walk": [], "apart": []},
    "repairs.py": {"holds": [], "repair": [], "cut": []},
    "told.py": {"told_back": [], "Told": ["lowest", "highest", "between", "some", "days"]},
    "spans.py": {"spans_at": [], "span_walk": [], "span_after": [], "grows": [], "changes_span": []},
    "weeks.py": {"shifts": [], "off_cycle": [], "next_on": [], "mixed_up": []},
    "laps.py": {"lapped": []},
    "led.py": {"Led": [
        "__init__", "put", "erase", "send", "turn", "rounds", "all_of", "undo", "current", "deeds", "held", "listed",
        "page", "where", "agrees",
    ]},
}

LIBRARY = {
    "heapq": {"heappush", "heappop", "heapify", "heapreplace", "heappushpop"},
    "math": {"gcd", "lcm", "isqrt", "comb", "perm", "factorial"},
    "itertools": {"product", "combinations", "permutations"},
}
BUILTINS = set("""
    len range enumerate zip min max sum abs sorted reversed int str bool list tuple dict set
    frozenset isinstance ord repr any all divmod map iter next super property staticmethod
    classmethod bytes Exception ValueError TypeError KeyError IndexError LookupError
    ZeroDivisionError ArithmeticError OverflowError RuntimeError NotImplementedError
    AttributeError StopIteration NotImplemented
""".split())
ALL_BUILTINS = set(dir(__builtins__) if not isinstance(__builtins__, dict) else __builtins__)
BUILTIN_METHODS = {
    name for kind in (str, int, list, dict, tuple, set, bytes) for name in dir(kind)
    if not name.startswith("__")
}
ALLOWED_METHODS = set("""
    append clear copy count endswith extend find get index insert isalnum isalpha isdigit islower
    isspace isupper items join keys ljust lower lstrip partition pop remove replace reverse rfind
    rjust rpartition rsplit rstrip setdefault split splitlines startswith strip update upper
    values zfill bit_length title capitalize swapcase casefold center expandtabs removeprefix
    removesuffix rindex isascii isdecimal isnumeric istitle isidentifier isprintable translate
    sort add discard
""".split())
DUNDERS = set("""
    init eq repr str len enter exit call iter lt le gt ge ne add sub mul floordiv mod pow and or
    xor lshift rshift radd rsub rmul rfloordiv rmod rand ror rxor rlshift rrshift iadd isub imul
    ifloordiv imod ipow iand ior ixor ilshift irshift neg pos invert abs bool contains getitem
    setitem
""".split())
NEVER = {"register", "mro", "elements", "open", "input", "law", "version_info", "with_traceback", "add_note"}
NO_VARIABLES = set("""
    attrgetter breakpoint builtins compile copyright credits delattr dir eval exec exit gc getattr
    globals hasattr help id importlib license locals methodcaller os quit setattr super type vars
    sys
""".split())
NO_WORDS = set("""
    typing typing_extensions enum Enum IntEnum StrEnum Flag IntFlag Generic Protocol ABC ABCMeta
    namedtuple NamedTuple TypedDict TYPE_CHECKING abstractmethod
""".split())
NO_NODES = (
    ast.Global, ast.AsyncFunctionDef, ast.AsyncFor, ast.AsyncWith, ast.Await, ast.Div, ast.MatMult,
    ast.MatchClass, ast.MatchMapping, ast.TryStar, ast.Import,
)
# They may stand nowhere as long as an object with a length is iterated over (L2 Products).
NO_PRODUCTS = {"product", "combinations", "permutations"}


def trees():
    found = {}
    for path in sorted(FOLDER.glob("*.py")):
        found[path.name] = ast.parse(path.read_text(encoding="utf-8"))
    return found


def functions(tree):
    return [node for node in ast.walk(tree) if isinstance(node, ast.FunctionDef)]


def bound_names(tree):
    """The names that functions, classes, parameters, imports and assignments of a file bind."""
    found = []
    for node in ast.walk(tree):
        if isinstance(node, (ast.FunctionDef, ast.ClassDef)):
            found.append(node.name)
        elif isinstance(node, ast.arg):
            found.append(node.arg)
        elif isinstance(node, ast.Name) and isinstance(node.ctx, ast.Store):
            found.append(node.id)
        elif isinstance(node, ast.ImportFrom):
            found.extend(alias.asname or alias.name for alias in node.names)
        elif isinstance(node, ast.ExceptHandler) and node.name:
            found.append(node.name)
    return found


def bound_names_of(comprehension):
    """The names that the loops of a comprehension assign."""
    return {
        part.id for loop in comprehension.generators for part in ast.walk(loop.target) if isinstance(part, ast.Name)
    }


def methods(tree):
    return {
        node.name for part in ast.walk(tree) if isinstance(part, ast.ClassDef)
        for node in part.body if isinstance(node, ast.FunctionDef)
    }


class LanguageTest(unittest.TestCase):

    def test_the_folder_holds_plain_files_only(self):
        for path in FOLDER.iterdir():
            if path.name != "__pycache__":
                self.assertTrue(path.is_file(), path)
                self.assertRegex(path.name, r"\A(?:__init__|__main__|[a-z][a-z0-9_]*)\.py\Z")
                self.assertNotIn(path.stem, ALL_BUILTINS)
                self.assertNotRegex(path.stem, r"\A(?:law_|test|site\Z|conftest\Z)")

    def test_signs_and_sizes(self):
        for path in FOLDER.glob("*.py"):
            text = path.read_text(encoding="utf-8")
            self.assertRegex(text, r"\A[ -~\n]*\Z", path)
            self.assertLessEqual(len(text.splitlines()), 399, path)
            self.assertLessEqual(max(len(line) for line in text.splitlines()), 120, path)
            self.assertNotIn("_wall", text, path)
        for name, tree in trees().items():
            for node in functions(tree):
                self.assertLessEqual(node.end_lineno - node.lineno + 1, 40, (name, node.name))

    def test_imports(self):
        files = trees()
        for name, tree in files.items():
            for node in ast.walk(tree):
                if isinstance(node, ast.ImportFrom):
                    self.assertEqual(node.level, 0, name)
                    package, _, module = node.module.partition(".")
                    for alias in node.names:
                        self.assertIsNone(alias.asname, name)
                        if package == "whoseday":
                            self.assert_defined(files, f"{module}.py", alias.name)
                        else:
                            self.assertIn(alias.name, LIBRARY[node.module] - NO_PRODUCTS, name)

    def test_each_import_is_used(self):
        for name, tree in trees().items():
            used = {node.id for node in ast.walk(tree) if isinstance(node, ast.Name)}
            for node in ast.walk(tree):
                if isinstance(node, ast.ImportFrom):
                    for alias in node.names:
                        self.assertIn(alias.name, used, name)

    def test_no_variable_has_the_name_of_an_import_or_a_class(self):
        for name, tree in trees().items():
            taken = {node.name for node in tree.body if isinstance(node, (ast.ClassDef, ast.FunctionDef))}
            for node in tree.body:
                if isinstance(node, ast.ImportFrom):
                    taken.update(alias.name for alias in node.names)
            for node in functions(tree):
                for part in ast.walk(node):
                    if isinstance(part, ast.arg):
                        self.assertNotIn(part.arg, taken, (name, part.lineno))
                    if isinstance(part, ast.Name) and isinstance(part.ctx, ast.Store):
                        self.assertNotIn(part.id, taken, (name, part.lineno))

    def assert_defined(self, files, file, name):
        defined = set()
        for node in files[file].body:
            if isinstance(node, (ast.FunctionDef, ast.ClassDef)):
                defined.add(node.name)
            elif isinstance(node, ast.Assign):
                defined.update(target.id for target in node.targets)
        self.assertIn(name, defined, file)

    def test_no_files_import_from_each_other(self):
        leads = {}
        for name, tree in trees().items():
            leads[name] = {
                f"{node.module.partition('.')[2]}.py" for node in ast.walk(tree)
                if isinstance(node, ast.ImportFrom) and node.module.startswith("whoseday.")
            }
        while leads:
            free = [name for name in leads if not leads[name] & set(leads)]
            self.assertTrue(free, f"in a ring: {sorted(leads)}")
            for name in free:
                del leads[name]

    def test_interface_stands_in_its_files(self):
        files = trees()
        for file, listed in INTERFACE.items():
            found = {
                node.name: node for node in files[file].body
                if isinstance(node, (ast.FunctionDef, ast.ClassDef))
            }
            for name, wanted in listed.items():
                self.assertIn(name, found, file)
                inside = [part.name for part in getattr(found[name], "body") if isinstance(part, ast.FunctionDef)]
                self.assertEqual(set(wanted) - set(inside), set(), name)

    def test_module_level(self):
        plain = (ast.FunctionDef, ast.ClassDef, ast.ImportFrom, ast.Assign)
        for name, tree in trees().items():
            for at, node in enumerate(tree.body):
                docstring = at == 0 and isinstance(node, ast.Expr) and isinstance(node.value, ast.Constant)
                self.assertTrue(docstring or isinstance(node, plain), (name, node.lineno))

    def test_statements_and_values(self):
        for name, tree in trees().items():
            for node in ast.walk(tree):
                where = (name, getattr(node, "lineno", None), type(node).__name__)
                self.assertNotIsInstance(node, NO_NODES, where)
                if isinstance(node, ast.Constant):
                    self.assertNotIsInstance(node.value, (float, complex), where)
                    if isinstance(node.value, str):
                        self.assertNotIn("%", node.value, where)
                if isinstance(node, (ast.FunctionDef, ast.ClassDef)):
                    for mark in node.decorator_list:
                        self.assertRegex(ast.unparse(mark), r"\A(property|staticmethod|classmethod|\w+\.setter)\Z")

    def test_builtins(self):
        for name, tree in trees().items():
            for node in ast.walk(tree):
                if isinstance(node, ast.Name) and node.id in ALL_BUILTINS:
                    self.assertIn(node.id, BUILTINS, (name, node.lineno))

    def test_methods_of_builtin_values(self):
        own = set().union(*[methods(tree) for tree in trees().values()])
        for name, tree in trees().items():
            for node in ast.walk(tree):
                if isinstance(node, ast.Call) and isinstance(node.func, ast.Attribute):
                    called = node.func.attr
                    if called in BUILTIN_METHODS and called not in own:
                        self.assertIn(called, ALLOWED_METHODS, (name, node.lineno))
                        if called != "sort":
                            self.assertEqual(node.keywords, [], (name, node.lineno))

    def test_names(self):
        for name, tree in trees().items():
            inside = methods(tree)
            for bound in bound_names(tree):
                self.assertNotIn(bound, NEVER | NO_VARIABLES, name)
                if bound not in inside:
                    self.assertNotIn(bound, ALL_BUILTINS, name)
                if bound.startswith("__"):
                    self.assertIn(bound.strip("_"), DUNDERS, name)
            for node in ast.walk(tree):
                if isinstance(node, ast.Attribute):
                    self.assertNotIn(node.attr, NEVER, (name, node.lineno))
                if isinstance(node, ast.Name) and isinstance(node.ctx, ast.Load):
                    self.assertNotEqual(node.id, "_", (name, node.lineno))
                if isinstance(node, (ast.Name, ast.Attribute)):
                    self.assertNotIn(getattr(node, "id", None) or getattr(node, "attr", None), NO_WORDS, name)

    def test_words_in_strings(self):
        for name, tree in trees().items():
            for node in ast.walk(tree):
                if isinstance(node, ast.Constant) and isinstance(node.value, str) and " " not in node.value:
                    self.assertEqual(set(re.findall(r"\w+", node.value)) & NO_WORDS, set(), name)

    def test_comparing_and_counting_assign_nothing(self):
        for name, tree in trees().items():
            for node in functions(tree):
                if node.name in ("__eq__", "__len__", "__repr__", "__str__"):
                    kinds = {type(part) for part in ast.walk(node)}
                    self.assertFalse(kinds & {ast.Assign, ast.AugAssign, ast.AnnAssign, ast.Delete}, (name, node.lineno))

    def test_no_name_is_a_method_and_an_attribute(self):
        called, stored = set(), set()
        for tree in trees().values():
            called |= methods(tree)
            for node in ast.walk(tree):
                if isinstance(node, ast.Attribute) and isinstance(node.ctx, ast.Store):
                    stored.add(node.attr)
        self.assertEqual(called & stored, set())

    def test_no_name_is_a_property_and_a_method(self):
        read, called = set(), set()
        for tree in trees().values():
            for node in functions(tree):
                marked = [part.id for part in node.decorator_list if isinstance(part, ast.Name)]
                (read if "property" in marked else called).add(node.name)
        self.assertEqual(read & called, set())

    def test_names_in_comprehensions_inside_others(self):
        kinds = (ast.ListComp, ast.SetComp, ast.DictComp, ast.GeneratorExp)
        for name, tree in trees().items():
            for node in functions(tree):
                inside = [part for part in ast.walk(node) if isinstance(part, kinds)]
                own = {id(one) for part in inside for loop in part.generators for one in ast.walk(loop.target)}
                taken = {
                    one.id for one in ast.walk(node)
                    if isinstance(one, ast.Name) and isinstance(one.ctx, ast.Store) and id(one) not in own
                } | {one.arg for one in ast.walk(node) if isinstance(one, ast.arg)}
                for outer in inside:
                    for inner in ast.walk(outer):
                        if inner is not outer and isinstance(inner, kinds):
                            mine, outside = bound_names_of(inner), bound_names_of(outer)
                            self.assertEqual(mine & (taken | outside), set(), (name, inner.lineno))

    def test_loops_do_not_change_what_they_walk(self):
        for name, tree in trees().items():
            self.assertEqual(changed_rows(tree), [], name)

    def test_what_is_iterated_at_once(self):
        takers = {"list", "tuple", "dict", "sorted", "sum", "any", "all", "enumerate", "zip", "min", "max", "reversed", "len"}
        for name, tree in trees().items():
            allowed = set()
            for node in ast.walk(tree):
                if isinstance(node, (ast.For, ast.comprehension)):
                    allowed.add(id(node.iter))
                elif isinstance(node, ast.Call) and isinstance(node.func, ast.Name) and node.func.id in takers:
                    allowed.update(id(part) for part in node.args)
                elif isinstance(node, ast.Compare) and isinstance(node.ops[0], (ast.In, ast.NotIn)):
                    allowed.add(id(node.comparators[0]))
            for node in ast.walk(tree):
                if isinstance(node, ast.Call):
                    lazy = isinstance(node.func, ast.Name) and node.func.id in ("range", "zip", "enumerate", "reversed")
                    view = isinstance(node.func, ast.Attribute) and node.func.attr in ("items", "keys", "values")
                    if lazy or view:
                        self.assertTrue(id(node) in allowed, (name, node.lineno))

    def test_handlers_name_their_errors(self):
        barred = {"Exception", "TypeError", "ArithmeticError", "OverflowError", "RuntimeError",
                  "NotImplementedError", "AttributeError", "BaseException"}
        for name, tree in trees().items():
            for node in ast.walk(tree):
                if isinstance(node, ast.ExceptHandler):
                    self.assertIsNotNone(node.type, name)
                    caught = {part.id for part in ast.walk(node.type) if isinstance(part, ast.Name)}
                    self.assertEqual(caught & barred, set(), name)


def sample(text):
    """The tree of a method or function with these rows, the first of which is row 2."""
    rows = "\n".join(f"    {row}" for row in text.split("\n"))
    return ast.parse(f"def told(self, xs, ys, many):\n{rows}")


class WalkedTest(unittest.TestCase):

    def assert_found(self, text, *rows):
        self.assertEqual(changed_rows(sample(text)), list(rows), text)

    def test_by_its_name(self):
        for change in ("xs.append(x)", "xs.pop()", "xs[0] = x", "del xs[0]", "xs += [x]", "xs.sort()", "heappush(xs, x)",
                       "xs[0], y = y, x", "xs[0] += 1", "y = xs.pop()"):
            self.assert_found(f"for x in xs:\n    {change}", 3)
            self.assert_found(f"for x in list(xs):\n    {change}")
            for walk in ("enumerate(xs)", "zip(xs, ys)", "reversed(xs)", "xs.items()", "xs if many else ys", "xs or ys",
                         "zip(ys, enumerate(xs))", "xs[1]"):
                self.assert_found(f"for x in {walk}:\n    if many:\n        {change}", 4)
                if walk not in ("xs.items()", "xs[1]"):
                    self.assert_found(f"for x in {walk.replace('xs', 'list(xs)')}:\n    {change}")
        self.assert_found("return [xs.append(x) for x in xs]", 2)
        self.assert_found("for x in xs:\n    ys.append(x)\nxs.append(1)")

    def test_a_field(self):
        self.assert_found("for x in self.rows:\n    self.rows.append(x)", 3)
        self.assert_found("for x in self.rows[0]:\n    many.rows[1].append(x)", 3)
        self.assert_found("for x in self.rows.inner:\n    self.rows[x] = 1", 3)
        self.assert_found("for x in list(self.rows):\n    self.rows.append(x)")
        self.assert_found("for x in self.rows:\n    self.lines.append(x)")

    def test_a_list_that_is_told_by_another_one(self):
        # What pairs.py and twins.py once had: a choice by what is changed, and what is walked next.
        self.assert_found(
            "while many:\n    pair = self.found[0]\n    for q in ys[pair[0][0]]:\n        self.found.append(q)", 5)
        self.assert_found("while many:\n    pair = self.found[0]\n    for q in list(ys[pair[0][0]]):\n        self.found.append(q)")
        self.assert_found(
            "while xs:\n    later = []\n    for x in xs:\n        if x:\n            later.append(x)\n    xs = later", 6)
        self.assert_found("while xs:\n    later = []\n    for x in list(xs):\n        later.append(x)\n    xs = later")
        self.assert_found("while xs:\n    later = []\n    for x in xs:\n        later.append(x)\n    xs = list(later)")
        self.assert_found("row = xs[0]\nfor x in xs[0]:\n    row.append(x)", 4)
        self.assert_found("a, b = xs, ys\nfor x in a:\n    xs.append(x)", 4)
        self.assert_found("a, b = xs, ys\nfor x in b:\n    xs.append(x)")
        self.assert_found("a, *b = xs\nfor x in ys[a]:\n    xs.append(x)", 4)
        self.assert_found("a = self.told(xs)\nfor x in a:\n    xs.append(x)", 4)
        self.assert_found("a = b = xs\nb = a\nfor x in b.values():\n    xs[x] = 1", 5)
        self.assert_found("for row in xs:\n    for x in row:\n        xs.append(x)", 4)
        self.assert_found("a = sorted(xs)\nfor x in a:\n    xs.append(x)")
        self.assert_found("if (a := xs[0]):\n    for x in a:\n        xs.append(x)", 4)


if __name__ == "__main__":
    unittest.main()
