"""The rules of the language in which the package is written, as far as a look at the code tells them."""

import ast
import builtins
import sys
import unittest
from pathlib import Path

PACKAGE = Path(__file__).resolve().parent.parent / "moonfall"

BUILTINS = set("""len range enumerate zip min max sum abs sorted reversed int str bool bytes list tuple dict set
frozenset isinstance ord repr any all divmod pow Exception ValueError TypeError KeyError IndexError LookupError
ZeroDivisionError ArithmeticError OverflowError RuntimeError NotImplementedError StopIteration""".split())
METHODS = set("""append clear copy count endswith extend find get index insert isalnum isalpha isdigit islower isspace
isupper items join keys ljust lower lstrip partition pop remove replace reverse rfind rjust rpartition rsplit rstrip
setdefault split splitlines startswith strip update upper values zfill bit_length add discard""".split())
MODIFIERS = set("append clear extend insert pop remove reverse setdefault update add discard".split())
LIBRARY = {
    "heapq": {"heappush", "heappop", "heapify", "heapreplace", "heappushpop"},
    "math": {"gcd", "lcm", "isqrt", "comb", "perm", "factorial"},
    "itertools": {"product", "combinations", "permutations", "chain", "accumulate", "pairwise", "islice"},
    "collections": {"defaultdict", "deque"},
}
BARRED_WORDS = set("""register mro elements open input law version_info with_traceback add_note attrgetter breakpoint
builtins compile copyright credits delattr dir eval exec exit gc globals help id importlib license locals methodcaller
os quit super type vars sys""".split())
BARRED_NODES = (ast.Lambda, ast.With, ast.Global, ast.Nonlocal, ast.AsyncFunctionDef, ast.AsyncFor,
                ast.AsyncWith, ast.Await, ast.Match, ast.Import, ast.GeneratorExp, ast.YieldFrom, ast.AnnAssign, ast.Div)
# Whoever runs examples leaves a `_` among the builtins.
TAKEN = set(dir(builtins)) - {"_"}
DUNDERS = {"__init__", "__eq__", "__repr__", "__str__", "__len__"}


def sources():
    return {path.stem: path.read_text() for path in sorted(PACKAGE.glob("*.py"))}


def trees():
    return {name: ast.parse(text) for name, text in sources().items()}


def functions_of(tree):
    return [node for node in ast.walk(tree) if isinstance(node, ast.FunctionDef)]


def bound_in(node):
    """Names that are bound anywhere within a function: parameters, targets."""
    names = set()
    for each in ast.walk(node):
        if isinstance(each, ast.Name) and isinstance(each.ctx, (ast.Store, ast.Del)):
            names.add(each.id)
        elif isinstance(each, ast.arg):
            names.add(each.arg)
        elif isinstance(each, ast.ExceptHandler) and each.name:
            names.add(each.name)
    return names


def module_names(tree):
    names = []
    for node in tree.body:
        if isinstance(node, (ast.FunctionDef, ast.ClassDef)):
            names.append(node.name)
        elif isinstance(node, ast.ImportFrom):
            names.extend(alias.asname or alias.name for alias in node.names)
        elif isinstance(node, ast.Assign):
            names.extend(target.id for target in node.targets)
    return names


class Language(unittest.TestCase):
    def test_files(self):
        for path in PACKAGE.iterdir():
            if path.name != "__pycache__":
                self.assertRegex(path.name, r"^[a-z0-9_]+\.py$")
                self.assertNotIn(path.stem, set(sys.stdlib_module_names) | TAKEN)
        for name, text in sources().items():
            lines = text.split("\n")
            self.assertLessEqual(len(lines) - 1, 399, name)
            self.assertLessEqual(max(map(len, lines)), 120, name)
            self.assertTrue(all(sign == "\n" or " " <= sign <= "~" for sign in text), name)
            self.assertFalse([line for line in lines if line != line.rstrip()], name)
            self.assertTrue(text.endswith("\n") and not text.endswith("\n\n"), name)

    def test_module_level(self):
        for name, tree in trees().items():
            self.assertTrue(ast.get_docstring(tree), name)
            for node in tree.body[1:]:
                self.assertIsInstance(node, (ast.ImportFrom, ast.FunctionDef, ast.ClassDef, ast.Assign), name)
                if isinstance(node, ast.Assign):
                    self.assertIsInstance(ast.literal_eval(node.value), (int, str, tuple))
            names = module_names(tree)
            self.assertEqual(len(set(names)), len(names), name)
            kinds = [isinstance(node, ast.ImportFrom) for node in tree.body[1:]]
            self.assertEqual(kinds, sorted(kinds, reverse=True), name)

    def test_imports(self):
        known = trees()
        links = {}
        for name, tree in known.items():
            links[name] = set()
            used = {node.id for node in ast.walk(tree) if isinstance(node, ast.Name)}
            for node in tree.body:
                if not isinstance(node, ast.ImportFrom):
                    continue
                self.assertEqual(node.level, 0)
                self.assertFalse([alias for alias in node.names if alias.asname])
                words = {alias.name for alias in node.names}
                self.assertLessEqual(words, used, name)
                if node.module in LIBRARY:
                    self.assertLessEqual(words, LIBRARY[node.module])
                    continue
                package, _, module = node.module.partition(".")
                self.assertEqual(package, "moonfall")
                links[name].add(module)
                defined = [each.name for each in known[module].body if isinstance(each, (ast.FunctionDef, ast.ClassDef))]
                defined += [t.id for each in known[module].body if isinstance(each, ast.Assign) for t in each.targets]
                self.assertLessEqual(words, set(defined), name)
        for _ in links:
            links = {name: to | {far for near in to for far in links[near]} for name, to in links.items()}
        self.assertFalse([name for name, to in links.items() if name in to])

    def test_nodes(self):
        for name, tree in trees().items():
            for node in ast.walk(tree):
                self.assertNotIsInstance(node, BARRED_NODES, f"{name} {getattr(node, 'lineno', '')}")
                if isinstance(node, ast.Constant):
                    self.assertNotIsInstance(node.value, (float, complex, bytes))
                    self.assertFalse(isinstance(node.value, str) and "%" in node.value, name)
                if isinstance(node, ast.Compare):
                    for op, right in zip(node.ops, node.comparators):
                        if isinstance(op, (ast.Is, ast.IsNot)):
                            self.assertIsInstance(right, ast.Constant, name)
                if isinstance(node, (ast.FunctionDef, ast.ClassDef)):
                    self.assertFalse(node.decorator_list, name)

    def test_caught_errors(self):
        """L19: only own errors are caught, each by its name; no `finally`."""
        own = {node.name for tree in trees().values() for node in ast.walk(tree)
               if isinstance(node, ast.ClassDef) and node.bases and node.name != "MoonError"} | {"MoonError"}
        for name, tree in trees().items():
            for node in ast.walk(tree):
                if isinstance(node, ast.Try):
                    self.assertFalse(node.finalbody, name)
                    for handler in node.handlers:
                        words = handler.type.elts if isinstance(handler.type, ast.Tuple) else [handler.type]
                        self.assertLessEqual({getattr(word, "id", None) for word in words}, own, name)
                        # Of a named error only its own attributes are read.
                        let = {id(each.value) for each in ast.walk(handler) if isinstance(each, ast.Attribute)}
                        for each in ast.walk(handler):
                            if isinstance(each, ast.Name) and each.id == handler.name:
                                self.assertIn(id(each), let, name)

    def test_stars(self):
        """L7: no star in a subscript's brackets, not in a tuple in them either, nor in a set."""
        for name, tree in trees().items():
            for node in ast.walk(tree):
                inner = []
                if isinstance(node, ast.Subscript):
                    inner = list(ast.walk(node.slice))
                elif isinstance(node, ast.Set):
                    inner = node.elts
                for each in inner:
                    self.assertNotIsInstance(each, ast.Starred, f"{name} {node.lineno}")

    def test_functions(self):
        for name, tree in trees().items():
            for node in functions_of(tree):
                self.assertLessEqual(node.end_lineno - node.lineno + 1, 40, f"{name}.{node.name}")
                self.assertFalse(node.args.defaults or node.args.kwonlyargs or node.args.vararg or node.args.kwarg)
                self.assertEqual(len(functions_of(node)), 1, f"{name}.{node.name}: nested")
                if node.name.startswith("__"):
                    self.assertIn(node.name, DUNDERS)

    def test_names(self):
        for name, tree in trees().items():
            imported = {alias.asname or alias.name for node in tree.body if isinstance(node, ast.ImportFrom)
                        for alias in node.names}
            classes = {node.name for node in tree.body if isinstance(node, ast.ClassDef)}
            outside = set(module_names(tree))
            for node in functions_of(tree):
                bound = bound_in(node)
                self.assertFalse(bound & (imported | classes), f"{name}.{node.name}")
                self.assertFalse(bound & (TAKEN | BARRED_WORDS), f"{name}.{node.name}")
                read = {each.id for each in ast.walk(node) if isinstance(each, ast.Name)} - bound - outside
                self.assertLessEqual(read, BUILTINS, f"{name}.{node.name}")
                self.assertNotIn("_", {each.id for each in ast.walk(node)
                                       if isinstance(each, ast.Name) and isinstance(each.ctx, ast.Load)})
            self.assertFalse(outside & (TAKEN | BARRED_WORDS), name)

    def test_attributes(self):
        known = trees()
        methods, attributes = set(), set()
        for tree in known.values():
            for each in ast.walk(tree):
                if isinstance(each, ast.ClassDef):
                    methods |= {node.name for node in each.body if isinstance(node, ast.FunctionDef)}
                if isinstance(each, ast.Attribute) and isinstance(each.ctx, ast.Store):
                    attributes.add(each.attr)
        # L18 lets a name be both in classes that have nothing to do with one another: a sky's method, BadCut's place.
        self.assertLessEqual(methods & attributes, {"place"})
        self.assertFalse((methods | attributes) & (METHODS | {"sort", "args", "format"}))
        for name, tree in known.items():
            called = {id(node.func) for node in ast.walk(tree) if isinstance(node, ast.Call)}
            for node in ast.walk(tree):
                if isinstance(node, ast.Attribute):
                    let = methods | METHODS if id(node) in called else attributes
                    self.assertIn(node.attr, let, f"{name} {node.lineno}")

    def test_equality(self):
        """L28 with L5: `__eq__` compares attribute by attribute, and calls no method, not even one of its own."""
        for name, tree in trees().items():
            for owner in ast.walk(tree):
                for node in owner.body if isinstance(owner, ast.ClassDef) else []:
                    if isinstance(node, ast.FunctionDef) and node.name == "__eq__":
                        stored = [each.attr for each in ast.walk(owner) if isinstance(each, ast.Attribute)
                                  and isinstance(each.ctx, ast.Store) and not each.attr.startswith("_")]
                        parts = [f"isinstance(other, {owner.name})"]
                        parts += [f"self.{word} == other.{word}" for word in stored]
                        right = ast.parse("return " + " and ".join(parts)).body
                        self.assertEqual([ast.dump(row) for row in node.body], [ast.dump(row) for row in right], name)

    def test_sets_are_not_iterated(self):
        for name, tree in trees().items():
            for node in ast.walk(tree):
                rows = [node.iter] if isinstance(node, (ast.For, ast.comprehension)) else []
                if isinstance(node, ast.Call) and isinstance(node.func, ast.Name):
                    if node.func.id in ("list", "tuple", "dict", "sum", "min", "max", "enumerate", "zip"):
                        rows += node.args
                for row in rows:
                    self.assertNotIsInstance(row, (ast.Set, ast.SetComp), name)
                    if isinstance(row, ast.Call) and isinstance(row.func, ast.Name):
                        self.assertNotEqual(row.func.id, "set", name)

    def test_what_a_loop_goes_over_stays(self):
        """L23: no append, pop, item or `del` in a loop at what it goes over."""
        for name, tree in trees().items():
            for loop in ast.walk(tree):
                if not isinstance(loop, ast.For):
                    continue
                over = loop.iter
                while isinstance(over, ast.Call):
                    over = over.args[0] if over.args else getattr(over.func, "value", None)
                text = ast.unparse(over) if over is not None else ""
                for node in (each for row in loop.body for each in ast.walk(row)):
                    touched = None
                    if isinstance(node, ast.Call) and getattr(node.func, "attr", "") in MODIFIERS:
                        touched = node.func.value
                    elif isinstance(node, ast.Subscript) and not isinstance(node.ctx, ast.Load):
                        touched = node.value
                    elif isinstance(node, ast.AugAssign):
                        touched = node.target
                    self.assertFalse(touched is not None and ast.unparse(touched) == text, f"{name} {loop.lineno}")

    def test_kept_sets(self):
        """L24: a variable that holds a set is assigned once, and is only asked, added to, counted, sorted."""
        for name, tree in trees().items():
            for node in functions_of(tree):
                stores = [each for each in ast.walk(node) if isinstance(each, ast.Assign)]
                for each in stores:
                    if not (isinstance(each.value, (ast.Set, ast.SetComp)) or isinstance(each.value, ast.Call)
                            and getattr(each.value.func, "id", "") == "set"):
                        continue
                    word = each.targets[0].id
                    self.assertEqual(sum(ast.unparse(other.targets[0]) == word for other in stores), 1, name)
                    let = {id(each.targets[0])}
                    for user in ast.walk(node):
                        if isinstance(user, ast.Compare):
                            let.update(map(id, user.comparators))
                        elif isinstance(user, ast.Call) and getattr(user.func, "attr", "") in ("add", "discard"):
                            let.add(id(user.func.value))
                        elif isinstance(user, ast.Call) and getattr(user.func, "id", "") in ("len", "sorted"):
                            let.update(map(id, user.args))
                    used = {id(user) for user in ast.walk(node) if isinstance(user, ast.Name) and user.id == word}
                    self.assertLessEqual(used, let, f"{name}.{node.name}")

    def test_keywords(self):
        """L22, L25: keywords go to own functions, and `key=` to sorted, min and max."""
        for name, tree in trees().items():
            for node in ast.walk(tree):
                if isinstance(node, ast.Call):
                    words = {keyword.arg for keyword in node.keywords}
                    let = {"sorted": {"key", "reverse"}, "min": {"key", "default"}, "max": {"key", "default"}}
                    self.assertLessEqual(words, let.get(getattr(node.func, "id", ""), set()), f"{name} {node.lineno}")

    def test_iterated_at_once(self):
        lazy = {"zip", "enumerate", "reversed", "range", "combinations", "product", "permutations"}
        takers = {"list", "tuple", "dict", "sorted", "sum", "any", "all", "enumerate", "zip", "reversed", "min", "max"}
        for name, tree in trees().items():
            let = set()
            for node in ast.walk(tree):
                if isinstance(node, (ast.For, ast.comprehension)):
                    let.add(id(node.iter))
                elif isinstance(node, ast.Call) and isinstance(node.func, ast.Name) and node.func.id in takers:
                    let.update(id(each) for each in node.args)
            for node in ast.walk(tree):
                if isinstance(node, ast.Call):
                    word = getattr(node.func, "id", getattr(node.func, "attr", None))
                    if word in lazy | {"items", "keys", "values"}:
                        self.assertIn(id(node), let, f"{name} {node.lineno}")

    def test_barred_words(self):
        for name, text in sources().items():
            code = ast.unparse(ast.parse(text))
            for word in ("type", "typing", "enum", "Enum", "Flag", "Generic", "Protocol", "ABC", "namedtuple"):
                self.assertNotRegex(code, rf"\b{word}\b", name)

    def test_nothing_is_left_over(self):
        """Each function, class and method is used by the package, or stands in the interface of the document."""
        known = trees()
        used = set()
        for tree in known.values():
            used |= {node.id for node in ast.walk(tree) if isinstance(node, ast.Name)}
            used |= {node.attr for node in ast.walk(tree) if isinstance(node, ast.Attribute)}
        document = PACKAGE.parent.parent / "shared" / "DOC.md"
        interface = document.read_text() if document.exists() else None
        for name, tree in known.items():
            for node in ast.walk(tree):
                if isinstance(node, (ast.FunctionDef, ast.ClassDef)) and not node.name.startswith("__"):
                    if interface is not None and f"`{node.name}(" not in interface and node.name != "MoonError":
                        self.assertIn(node.name, used, name)


if __name__ == "__main__":
    unittest.main()
