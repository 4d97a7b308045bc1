"""The form of the package's files: those rules of LANGUAGE.md that a plain look at them tells."""

import ast
import builtins
import os
import re
import unittest

HERE = os.path.dirname(os.path.abspath(__file__))
PACKAGE = os.path.join(os.path.dirname(HERE), "crossnest")

BUILTINS = set(
    "len range enumerate zip min max sum abs sorted reversed int str bool bytes list tuple dict set"
    " frozenset isinstance ord repr any all divmod pow getattr hasattr setattr Exception ValueError"
    " TypeError KeyError IndexError LookupError ZeroDivisionError ArithmeticError OverflowError"
    " RuntimeError NotImplementedError AttributeError StopIteration NotImplemented super".split()
)
METHODS = set(
    "append clear copy count endswith extend find get index insert isalnum isalpha isdigit islower"
    " isspace isupper items join keys ljust lower lstrip partition pop remove replace reverse rfind"
    " rjust rpartition rsplit rstrip setdefault split splitlines startswith strip update upper values"
    " zfill bit_length add discard __init__".split()
)
SPECIAL = {"__init__", "__eq__", "__repr__", "__str__", "__len__", "__ne__"}
WORDS = re.compile(
    r"\b(type|typing|enum|Enum|IntEnum|Flag|Generic|Protocol|ABC|ABCMeta|namedtuple|NamedTuple|TypedDict"
    r"|abstractmethod)\b|dataclass|overload|contextmanager"
)
NEVER = {"register", "mro", "elements", "open", "input", "law", "version_info", "add_note"}
ONCE_ITERATED = {"zip", "enumerate", "reversed"}
KEYWORDS = {"sorted": {"key"}, "min": {"key"}, "max": {"key"}}
STATEMENTS = (
    ast.Assign, ast.AugAssign, ast.If, ast.While, ast.For, ast.Return, ast.Break, ast.Continue,
    ast.Pass, ast.Raise, ast.Assert, ast.Delete, ast.Nonlocal, ast.Try, ast.Expr, ast.FunctionDef,
    ast.ClassDef, ast.ImportFrom,
)


def files():
    return sorted(name for name in os.listdir(PACKAGE) if name != "__pycache__")


def text_of(name):
    with open(os.path.join(PACKAGE, name), encoding="utf-8") as told:
        return told.read()


def tree_of(name):
    return ast.parse(text_of(name))


def functions_in(tree):
    return [node for node in ast.walk(tree) if isinstance(node, ast.FunctionDef)]


def bound_in(function):
    """The parameters and local names of a function."""
    told = function.args
    found = [arg.arg for arg in told.args + told.posonlyargs + told.kwonlyargs]
    found += [arg.arg for arg in (told.vararg, told.kwarg) if arg]
    for node in ast.walk(function):
        if isinstance(node, ast.Name) and isinstance(node.ctx, (ast.Store, ast.Del)):
            found.append(node.id)
        if isinstance(node, ast.FunctionDef) and node is not function:
            found.append(node.name)
        if isinstance(node, ast.Lambda):
            found += [arg.arg for arg in node.args.args]
    return set(found)


def methods_in(tree):
    """The names of the methods of each class."""
    return {
        node.name: {part.name for part in node.body if isinstance(part, ast.FunctionDef)}
        for node in ast.walk(tree) if isinstance(node, ast.ClassDef)
    }


def bases_in(tree):
    return {
        node.name: [base.id for base in node.bases if isinstance(base, ast.Name)]
        for node in ast.walk(tree) if isinstance(node, ast.ClassDef)
    }


def stored_in(tree):
    """The names of the attributes that are assigned."""
    return {
        node.attr for node in ast.walk(tree)
        if isinstance(node, ast.Attribute) and isinstance(node.ctx, ast.Store)
    }


def family_of(name, bases):
    """A class and those above it."""
    found, waiting = [], [name]
    while waiting:
        at = waiting.pop()
        found.append(at)
        waiting.extend(bases.get(at, []))
    return found


def handed_on(tree, methods, bases, stored):
    """The rows in which a method, own or of a builtin value, is read off an object and not called.

    A name that some class has as an attribute is taken as that, but for a method off self.
    """
    above = parents_in(tree)
    own = {name for told in methods.values() for name in told}
    found = []
    for node in ast.walk(tree):
        if not isinstance(node, ast.Attribute) or not isinstance(node.ctx, ast.Load):
            continue
        outer = above[node]
        if isinstance(outer, ast.Call) and outer.func is node:
            continue
        is_key = isinstance(outer, ast.keyword) and outer.arg == "key"
        if is_key and called(above[outer]) in ("sorted", "min", "max") and node.attr in own:
            continue
        near = outer
        while near is not None and not isinstance(near, ast.ClassDef):
            near = above.get(near)
        mine = set()
        if near is not None and isinstance(node.value, ast.Name) and node.value.id == "self":
            mine = {name for at in family_of(near.name, bases) for name in methods.get(at, ())}
        if node.attr in mine or (node.attr in own | METHODS and node.attr not in stored):
            found.append(node.lineno)
    return sorted(found)


def parents_in(tree):
    return {kid: node for node in ast.walk(tree) for kid in ast.iter_child_nodes(node)}


class Form(unittest.TestCase):
    def places(self, found):
        self.assertEqual(found, [])

    def test_files(self):
        for name in files():
            self.assertRegex(name, r"^[a-z_][a-z0-9_]*\.py$")
            text = text_of(name)
            self.assertTrue(all(sign == "\n" or " " <= sign <= "~" for sign in text), name)
            lines = text.split("\n")
            self.assertLessEqual(len(lines), 400, name)
            self.places([(name, at + 1) for at, line in enumerate(lines) if len(line) > 120])
            self.assertNotRegex(text, r"_wall|_WallAttr")

    def test_functions_are_short(self):
        self.places([
            (name, node.name) for name in files() for node in functions_in(tree_of(name))
            if node.end_lineno - node.lineno + 1 > 40
        ])

    def test_modules_hold_imports_functions_classes_and_values(self):
        for name in files():
            tree = tree_of(name)
            self.assertIsNotNone(ast.get_docstring(tree), name)
            imports, told = True, set()
            for node in tree.body[1:]:
                if isinstance(node, ast.ImportFrom):
                    self.assertTrue(imports, (name, node.lineno))
                    for alias in node.names:
                        self.assertNotIn(alias.name, told)
                        told.add(alias.asname or alias.name)
                    continue
                imports = False
                if isinstance(node, ast.Assign):
                    self.assertEqual(len(node.targets), 1)
                    ast.literal_eval(node.value)
                    self.assertNotIn(node.targets[0].id, told)
                    told.add(node.targets[0].id)
                else:
                    self.assertIsInstance(node, (ast.FunctionDef, ast.ClassDef), (name, node.lineno))
                    self.assertNotIn(node.name, told)
                    told.add(node.name)

    def test_imports_name_the_defining_file_and_make_no_ring(self):
        leads = {}
        for name in files():
            tree = tree_of(name)
            used = {node.id for node in ast.walk(tree) if isinstance(node, ast.Name)}
            leads[name] = set()
            for node in tree.body:
                if not isinstance(node, ast.ImportFrom):
                    continue
                self.assertEqual(node.level, 0)
                if node.module == "math":
                    self.assertLessEqual({alias.name for alias in node.names}, {"gcd"} & used)
                    continue
                self.assertTrue(node.module.startswith("crossnest."), node.module)
                other = node.module.split(".")[1] + ".py"
                leads[name].add(other)
                made = set()
                for part in tree_of(other).body:
                    if isinstance(part, (ast.FunctionDef, ast.ClassDef)):
                        made.add(part.name)
                    elif isinstance(part, ast.Assign):
                        made.add(part.targets[0].id)
                for alias in node.names:
                    self.assertIsNone(alias.asname)
                    self.assertIn(alias.name, made, (name, alias.name))
                    self.assertIn(alias.name, used, (name, alias.name))
        while leads:
            free = [name for name in leads if not leads[name] & set(leads)]
            self.assertTrue(free, leads)
            for name in free:
                del leads[name]

    def test_names(self):
        made = {
            node.name for name in files() for node in ast.walk(tree_of(name))
            if isinstance(node, (ast.FunctionDef, ast.ClassDef))
        }
        for name in files():
            tree = tree_of(name)
            fixed, top = set(), set()
            for node in tree.body:
                if isinstance(node, ast.ImportFrom):
                    fixed |= {alias.name for alias in node.names}
                elif isinstance(node, ast.ClassDef):
                    fixed.add(node.name)
                if isinstance(node, (ast.FunctionDef, ast.ClassDef)):
                    top.add(node.name)
                elif isinstance(node, ast.Assign):
                    top.add(node.targets[0].id)
            local = set()
            for function in functions_in(tree):
                bound = bound_in(function)
                local |= bound
                self.assertEqual(bound & fixed, set(), (name, function.name))
                self.assertEqual(bound & set(dir(builtins)), set(), (name, function.name))
                if isinstance(parents_in(tree)[function], ast.Module):
                    self.assertNotIn(function.name, dir(builtins))
            for node in ast.walk(tree):
                if isinstance(node, ast.Name) and isinstance(node.ctx, ast.Load):
                    self.assertIn(node.id, local | fixed | top | BUILTINS, (name, node.lineno))
                    self.assertNotEqual(node.id, "_", (name, node.lineno))
                if isinstance(node, ast.Attribute):
                    self.assertFalse(node.attr.startswith("__") and node.attr not in SPECIAL)
                    self.assertNotIn(node.attr, NEVER)
                if isinstance(node, ast.Call) and isinstance(node.func, ast.Attribute):
                    self.assertIn(node.func.attr, METHODS | made, (name, node.lineno))
            self.assertEqual((local | top) & NEVER, set())

    def test_methods_and_attributes(self):
        methods, stored, read = {}, {}, set()
        for name in files():
            for node in ast.walk(tree_of(name)):
                if isinstance(node, ast.ClassDef):
                    stored[node.name] = stored_in(node)
                    for part in node.body:
                        if isinstance(part, ast.FunctionDef):
                            self.assertNotIn((node.name, part.name), methods)
                            self.assertFalse(part.name.startswith("__") and part.name not in SPECIAL)
                            methods[(node.name, part.name)] = True
                if isinstance(node, ast.Attribute) and isinstance(node.ctx, ast.Load):
                    read.add(node.attr)
        every = {name for told in stored.values() for name in told}
        names = {name for _, name in methods}
        self.assertEqual(names & BUILTINS, set())
        self.assertEqual(read - every - names - METHODS - {"__class__"}, set())
        self.assertEqual(every & set("items keys values pop update append clear extend insert".split()), set())
        # Different classes may have a name as both: so none does, what is handed on is told by it.
        self.assertEqual(names & every, set())

    def test_no_class_has_a_method_of_sets(self):
        # Where one has, no stored set may be added to or discarded from: dicts are taken.
        for name in files():
            for node in ast.walk(tree_of(name)):
                if isinstance(node, ast.Call) and isinstance(node.func, ast.Attribute):
                    if node.func.attr in ("add", "discard"):
                        self.assertIsInstance(node.func.value, ast.Attribute, (name, node.lineno))

    def test_methods_are_not_handed_on(self):
        trees = {name: tree_of(name) for name in files()}
        methods = {at: told for tree in trees.values() for at, told in methods_in(tree).items()}
        bases = {at: told for tree in trees.values() for at, told in bases_in(tree).items()}
        stored = {word for tree in trees.values() for word in stored_in(tree)}
        self.places([
            (name, row) for name, tree in trees.items() for row in handed_on(tree, methods, bases, stored)
        ])

    def test_the_look_at_methods_finds_what_is_handed_on(self):
        made = (
            "class Low:\n    def met(self, row):\n        return row\n"
            "class Box(Low):\n    def __init__(self):\n        self.many = 0\n"
            "    def many_of(self, row):\n"
        )
        for line, is_found in (
                ("return self.met", True), ("return self.met(row)", False), ("row.told = self.many_of", True),
                ("return first(row, row.met)", True), ("return [row.met]", True), ("return {1: row.met}", True),
                ("return row.many", False), ("return self.many", False), ("add = row.append", True),
                ("return first(row.index)", True), ("return sorted(row, key=row.met)", False),
                ("return sorted(row, key=row.index)", True), ("return first(row, key=row.met)", True),
                ("return max(row, key=self.met)", False), ("row.sort(key=row.met)", True),
                ("return lambda at: row.met(at)", False),
                ("return row.met and row", True), ("return row.met(row).many", False),
                ("return row.many.append", True), ("return row.append(self.met)", True),
        ):
            tree = ast.parse(made + "        " + line + "\n")
            rows = handed_on(tree, methods_in(tree), bases_in(tree), stored_in(tree))
            self.assertEqual(rows, [8] if is_found else [], line)

    def test_statements_and_expressions(self):
        for name in files():
            tree = tree_of(name)
            above = parents_in(tree)
            for node in ast.walk(tree):
                where = (name, getattr(node, "lineno", 0))
                if isinstance(node, ast.stmt):
                    self.assertIsInstance(node, STATEMENTS, where)
                if isinstance(node, (ast.FunctionDef, ast.ClassDef)):
                    self.assertEqual(node.decorator_list, [], where)
                self.assertNotIsInstance(node, (ast.Global, ast.Yield, ast.YieldFrom, ast.Await, ast.Div), where)
                self.assertNotIsInstance(node, (ast.GeneratorExp, ast.JoinedStr, ast.NamedExpr), where)
                if isinstance(node, ast.Constant):
                    self.assertNotIsInstance(node.value, (float, complex), where)
                if isinstance(node, (ast.ListComp, ast.DictComp, ast.SetComp, ast.Lambda)):
                    words = [part.id for part in ast.walk(node) if isinstance(part, ast.Name)]
                    self.assertNotIn("super", words, where)
                if isinstance(node, ast.Pow):
                    self.fail(where)
                if isinstance(node, ast.Compare):
                    for sign, other in zip(node.ops, node.comparators):
                        if isinstance(sign, (ast.Is, ast.IsNot)):
                            self.assertIsInstance(other, ast.Constant, where)
                            self.assertIn(other.value, (None, True, False), where)
                if isinstance(node, ast.Call) and isinstance(node.func, ast.Name):
                    self.look_at_call(node, above, where)
                if isinstance(node, ast.Set):
                    self.assertFalse([part for part in node.elts if isinstance(part, ast.Starred)], where)
                if isinstance(node, (ast.SetComp, ast.Set)):
                    self.assertIn(called(above[node]), ("sorted", "len"), where)

    def look_at_call(self, node, above, where):
        word, outer = node.func.id, above[node]
        if word in ONCE_ITERATED or word == "range":
            iterated = isinstance(outer, (ast.For, ast.comprehension)) and outer.iter is node
            reading = called(outer) in ("list", "tuple", "dict", "sorted", "sum", "enumerate", "zip", "reversed")
            self.assertTrue(iterated or reading, where)
        if word == "set":
            kept = isinstance(outer, ast.Assign) and isinstance(outer.targets[0], ast.Name)
            self.assertTrue(kept or called(outer) in ("sorted", "len"), where)
        if word in BUILTINS:
            told = {keyword.arg for keyword in node.keywords}
            self.assertLessEqual(told, KEYWORDS.get(word, set()), where)

    def test_words(self):
        for name in files():
            tree = tree_of(name)
            for node in ast.walk(tree):
                if isinstance(node, (ast.Module, ast.ClassDef, ast.FunctionDef)):
                    if ast.get_docstring(node) is not None:
                        node.body[0].value.value = ""
            self.assertIsNone(WORDS.search(ast.unparse(tree)), name)

    def test_functions_hold_docstrings(self):
        for name in files():
            tree = tree_of(name)
            above = parents_in(tree)
            self.places([
                (name, node.name) for node in ast.walk(tree)
                if isinstance(node, (ast.FunctionDef, ast.ClassDef)) and ast.get_docstring(node) is None
                and node.name != "__init__" and not isinstance(above[node], ast.FunctionDef)
            ])


def called(node):
    return node.func.id if isinstance(node, ast.Call) and isinstance(node.func, ast.Name) else None


if __name__ == "__main__":
    unittest.main()
