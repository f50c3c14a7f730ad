"""The package keeps to ../shared/LANGUAGE.md, as far as a look at its code can tell."""

import ast
import builtins
import pathlib
import re
import unittest

FOLDER = pathlib.Path(__file__).resolve().parent.parent / "readagain"
FILES = sorted(FOLDER.glob("*.py"))

BUILTINS = """len range enumerate zip min max sum abs sorted reversed int str bool list tuple dict set isinstance ord repr
any all divmod Exception ValueError TypeError KeyError IndexError LookupError ZeroDivisionError""".split()
METHODS = """append clear copy count endswith extend find get index insert isalnum isalpha isdigit islower isspace isupper
items join keys ljust lower lstrip partition pop remove replace reverse rfind rjust rpartition rsplit rstrip setdefault
split splitlines startswith strip update upper values zfill bit_length add discard""".split()
CHANGING = "append clear extend insert pop remove reverse setdefault update add discard".split()
BARRED = """type typing typing_extensions enum Enum IntEnum StrEnum Flag IntFlag Generic Protocol ABC ABCMeta namedtuple
NamedTuple TypedDict TYPE_CHECKING abstractmethod mro elements open input law version_info with_traceback add_note
register eval exec compile globals locals vars dir delattr attrgetter methodcaller importlib builtins gc os sys help exit
quit breakpoint _wall _WallAttr""".split()
BARRED_PARTS = ("dataclass", "overload", "contextmanager", "_wall")
MAY_BE_LOCAL = ("object", "id", "format", "credits", "license", "copyright", "quit", "callable")
STATEMENTS = (
    ast.Assign, ast.AugAssign, ast.If, ast.While, ast.For, ast.Return, ast.Break, ast.Continue, ast.Pass, ast.Raise,
    ast.Assert, ast.Delete, ast.Try, ast.Expr, ast.FunctionDef, ast.ClassDef, ast.ImportFrom)
ITERATING = ("list", "tuple", "dict", "sorted", "sum", "any", "all", "enumerate", "zip", "min", "max")
INTERFACE = {
    "errors": "FormatError BadSort BadFormat BadThing BadText ManyValues TooLarge BadPair BadSource BadDeed",
    "sorts": "check_sort is_sort is_value how_many_values", "formats": "check_format is_format plain_format",
    "writing": "write", "scores": "spelling unspelled score value_of is_mark text_of marks_of",
    "machines": "machine_of place_behind", "verdicts": "first_pairs pairs_behind verdict is_closed are_twins",
    "reading": "read values_of Scanner", "spans": "part_at with_part spans replaced", "linking": "starts links",
    "alike": "do_spell_alike compared shows_alike shows_unlike", "meeting": "meeting keeps_apart do_meet",
    "widths": "widths_of with_widths least_widths are_least_widths least_between is_least_between",
    "counting": "lengths how_many number_of value_at", "alone": "standing stands_alone does_begin",
    "streams": "written_row lookahead shows_known shows_endless RowReader",
    "resync": "lot_steps resync shows_settled shows_lost",
    "slips": "slips rules_out_fewer differ_in swaps keeps_swaps_out are_swapped",
    "nearest": "changes_between nearest no_nearer is_nearest", "mending": "corrected is_sure fitting lost_at",
    "sure": "sure_marks sure_parts sure_text Rewriter rewritten",
    "including": "including shows_within same_texts shows_same is_outside",
    "totals": "how_long how_often mean_length shortest_form", "checking": "least_check is_least_check",
    "telling": "telling_values tells_all written_by", "guessing": "formats_for",
    "reports": "report differences best_of", "logs": "Log", "shelves": "deeds_sort deeds_format Shelf",
    "plainvalues": "value_text read_value read_values", "shell": "Shell run_lines described",
    "sources": "read_sort read_format sort_text format_text"}
CLASSES = {
    ("reading", "Scanner"): ("feed can_end next_signs readings", "size"),
    ("streams", "RowReader"): ("feed can_end rest", "size told"), ("sure", "Rewriter"): ("feed end", "out"),
    ("logs", "Log"): ("__len__ write torn back_to place_of rewritten", "entries text loose"),
    ("shelves", "Shelf"): ("can do log names text_of value_of replace names_of beginning_with torn at moved_to", ""),
    ("shell", "Shell"): ("answer", "")}
# Methods of values of Python's own that a class of the package has, too.
OWN_METHODS = ("__init__", "__len__", "replace")


def functions_of(tree):
    return [node for node in ast.walk(tree) if isinstance(node, ast.FunctionDef)]


def names_bound(function):
    """The parameters and local variables of a function, those of comprehensions and nested functions, too."""
    names = [argument.arg for argument in ast.walk(function.args) if isinstance(argument, ast.arg)]
    names += [node.id for node in ast.walk(function) if isinstance(node, ast.Name) and isinstance(node.ctx, ast.Store)]
    return names + [node.name for node in ast.walk(function) if isinstance(node, ast.FunctionDef) and node != function]


def parents_of(tree):
    return {child: node for node in ast.walk(tree) for child in ast.iter_child_nodes(node)}


def comprehension_names(node):
    return [name.id for part in node.generators for name in ast.walk(part.target) if isinstance(name, ast.Name)]


def own_assignments(function):
    """Names that a function assigns itself, not in comprehensions and nested functions."""
    found = [argument.arg for argument in function.args.args]
    waiting = list(function.body)
    while waiting:
        node = waiting.pop()
        if isinstance(node, ast.Name) and isinstance(node.ctx, ast.Store):
            found.append(node.id)
        if not isinstance(node, (ast.ListComp, ast.SetComp, ast.DictComp, ast.GeneratorExp, ast.FunctionDef, ast.Lambda)):
            waiting.extend(ast.iter_child_nodes(node))
    return found


class Language(unittest.TestCase):
    @classmethod
    def setUpClass(cls):
        cls.sources = {path.stem: path.read_text(encoding="utf-8") for path in FILES}
        cls.trees = {name: ast.parse(source) for name, source in cls.sources.items()}
        cls.methods, cls.attributes = set(), set()
        for tree in cls.trees.values():
            for node in ast.walk(tree):
                if isinstance(node, ast.ClassDef):
                    cls.methods |= {part.name for part in node.body if isinstance(part, ast.FunctionDef)}
                if isinstance(node, ast.Attribute) and isinstance(node.ctx, ast.Store):
                    cls.attributes.add(node.attr)

    def each(self):
        return list(self.trees.items())

    def test_files(self):
        for path in FOLDER.iterdir():
            self.assertTrue(path.suffix == ".py" or path.name == "__pycache__", path)
        self.assertIn("__init__", self.trees)
        for name, source in self.sources.items():
            self.assertRegex(name, r"^[a-z_]+[0-9]*$")
            self.assertTrue(name == "__init__" or not hasattr(builtins, name), name)
            lines = source.split("\n")
            self.assertLessEqual(len(lines), 400, name)
            self.assertLessEqual(max(len(line) for line in lines), 120, name)
            self.assertTrue(all(line.isascii() and (line == "" or line.isprintable()) for line in lines), name)

    def test_module_level(self):
        for name, tree in self.each():
            bound = []
            for at, node in enumerate(tree.body):
                docstring = isinstance(node, ast.Expr) and isinstance(node.value, ast.Constant) and at == 0
                kinds = (ast.ImportFrom, ast.FunctionDef, ast.ClassDef, ast.Assign)
                self.assertTrue(docstring or isinstance(node, kinds), ast.dump(node))
                if isinstance(node, ast.Assign):
                    self.assertEqual(len(node.targets), 1)
                    self.assertFalse([part for part in ast.walk(node.value) if isinstance(part, (ast.Call, ast.BinOp))])
                    bound += [part.id for part in node.targets]
                elif isinstance(node, ast.ImportFrom):
                    bound += [part.name for part in node.names]
                elif not docstring:
                    bound.append(node.name)
            self.assertEqual(len(set(bound)), len(bound))
            self.assertFalse([word for word in bound if hasattr(builtins, word)])

    def test_imports(self):
        ways = {}
        for name, tree in self.each():
            ways[name] = set()
            used = {node.id for node in ast.walk(tree) if isinstance(node, ast.Name)}
            for node in ast.walk(tree):
                self.assertNotIsInstance(node, ast.Import)
                if isinstance(node, ast.ImportFrom) and node.module == "math":
                    self.assertEqual([(part.name, part.asname) for part in node.names], [("gcd", None)])
                elif isinstance(node, ast.ImportFrom):
                    self.assertTrue(node.module.startswith("readagain.") and node.level == 0)
                    other = node.module.split(".")[1]
                    ways[name].add(other)
                    defined = self.defined_in(other)
                    for part in node.names:
                        self.assertIsNone(part.asname)
                        self.assertIn(part.name, defined)
                        self.assertIn(part.name, used)
        for name in ways:
            reached, waiting = set(), [name]
            while waiting:
                for other in ways[waiting.pop()] - reached:
                    reached.add(other)
                    waiting.append(other)
            self.assertNotIn(name, reached)

    def defined_in(self, name):
        found = set()
        for node in self.trees[name].body:
            if isinstance(node, (ast.FunctionDef, ast.ClassDef)):
                found.add(node.name)
            if isinstance(node, ast.Assign):
                found.add(node.targets[0].id)
        return found

    def test_the_interface_stands_where_it_is_listed(self):
        for name, words in INTERFACE.items():
            defined = {node.name for node in self.trees[name].body if isinstance(node, (ast.FunctionDef, ast.ClassDef))}
            self.assertLessEqual(set(words.split()), defined)
        for (name, word), (methods, attributes) in CLASSES.items():
            found = [node for node in self.trees[name].body if isinstance(node, ast.ClassDef) and node.name == word]
            defined = {node.name: node for node in found[0].body if isinstance(node, ast.FunctionDef)}
            self.assertLessEqual(set(methods.split()), set(defined))
            stored = {node.attr for node in ast.walk(defined["__init__"]) if isinstance(node, ast.Attribute) and isinstance(node.ctx, ast.Store)}
            self.assertLessEqual(set(attributes.split()), stored)

    def test_functions(self):
        for name, tree in self.each():
            outer = {word for node in tree.body if isinstance(node, ast.ImportFrom) for word in [part.name for part in node.names]}
            outer |= {node.name for node in tree.body if isinstance(node, ast.ClassDef)}
            for function in functions_of(tree):
                self.assertLessEqual(function.end_lineno - function.lineno + 1, 40, function.name)
                self.assertEqual((function.decorator_list, function.returns), ([], None))
                self.assertEqual((function.args.kwonlyargs, function.args.vararg, function.args.kwarg), ([], None, None))
                self.assertEqual(function.args.defaults, [])
                self.assertIsNone(next((part for part in function.args.args if part.annotation), None))
                self.assertTrue(ast.get_docstring(function) or function.name == "__init__" or self.is_nested(tree, function),
                                function.name)
                for word in names_bound(function):
                    self.assertTrue(not hasattr(builtins, word) or word in MAY_BE_LOCAL, (function.name, word))
                    self.assertNotIn(word, outer, function.name)
                    self.assertRegex(word, r"^(_|_?[A-Za-z][A-Za-z0-9_]*)$")
                self.assertTrue(function.name == "__init__" or not hasattr(builtins, function.name), function.name)

    def is_nested(self, tree, function):
        return any(function in list(ast.walk(other)) and function != other for other in functions_of(tree))

    def test_statements_and_expressions(self):
        for name, tree in self.each():
            for node in ast.walk(tree):
                if isinstance(node, ast.stmt):
                    self.assertIsInstance(node, STATEMENTS, ast.dump(node))
                self.assertNotIsInstance(node, (
                    ast.Lambda, ast.NamedExpr, ast.Yield, ast.YieldFrom, ast.Await, ast.Starred, ast.Set, ast.Div, ast.Pow,
                    ast.AnnAssign, ast.MatMult))
                if isinstance(node, ast.Compare):
                    for operator, right in zip(node.ops, node.comparators):
                        if isinstance(operator, (ast.Is, ast.IsNot)):
                            self.assertTrue(isinstance(right, ast.Constant) and right.value in (None, True, False))
                if isinstance(node, ast.ExceptHandler):
                    for error in node.type.elts if isinstance(node.type, ast.Tuple) else [node.type]:
                        self.assertIn(error.id, INTERFACE["errors"].split())
                if isinstance(node, ast.Raise) and node.exc is not None:
                    self.assertTrue(isinstance(node.exc, ast.Call) and node.exc.func.id in INTERFACE["errors"].split())
                if isinstance(node, ast.Delete):
                    self.assertTrue(all(isinstance(target, ast.Subscript) for target in node.targets))
                if isinstance(node, ast.FormattedValue):
                    self.assertEqual((node.conversion, node.format_spec), (-1, None))
                    self.assertFalse([part for part in ast.walk(node.value) if isinstance(part, ast.Constant)
                                      and isinstance(part.value, str)])

    def test_strings_and_words(self):
        for name, source in self.sources.items():
            with self.subTest(name):
                for node in ast.walk(self.trees[name]):
                    if isinstance(node, ast.Constant) and isinstance(node.value, str):
                        docstring = "\n" in node.value or node.value.endswith(".")
                        self.assertTrue("%" not in node.value or docstring)
                        self.assertFalse(re.search(r"\b__", node.value))
                    if isinstance(node, ast.Constant):
                        self.assertNotIsInstance(node.value, (float, complex, bytes))
                    words = [getattr(node, field, None) for field in ("id", "attr", "arg", "name")]
                    for word in words:
                        if isinstance(word, str):
                            self.assertNotIn(word, BARRED)
                            self.assertFalse([part for part in BARRED_PARTS if part in word])
                            self.assertTrue(not word.startswith("__") or word in OWN_METHODS, word)
                self.assertFalse(re.search(r"\b(_wall|_WallAttr|dataclass|overload|contextmanager)", source))

    def test_calls(self):
        for name, tree in self.each():
            own = {function.name for function in functions_of(tree)} | self.methods
            for node in ast.walk(tree):
                if isinstance(node, ast.Call):
                    if isinstance(node.func, ast.Attribute):
                        self.assertIn(node.func.attr, set(METHODS) | self.methods)
                        self.assertTrue(node.keywords == [] or node.func.attr not in METHODS)
                    elif isinstance(node.func, ast.Name) and hasattr(builtins, node.func.id):
                        self.assertIn(node.func.id, BUILTINS)
                        self.assertLessEqual({word.arg for word in node.keywords}, {"key", "reverse", "default"})
                    else:
                        self.assertIsInstance(node.func, ast.Name)
                elif isinstance(node, ast.Attribute) and isinstance(node.ctx, ast.Load):
                    self.assertIn(node.attr, self.attributes | own | set(METHODS))
            for node in ast.walk(tree):
                if isinstance(node, ast.ClassDef):
                    methods = {part.name for part in node.body if isinstance(part, ast.FunctionDef)}
                    stored = {part.attr for part in ast.walk(node) if isinstance(part, ast.Attribute) and isinstance(part.ctx, ast.Store)}
                    self.assertEqual(methods & stored, set())
                    self.assertFalse(stored & set("items keys values pop update append clear extend insert remove reverse setdefault sort "
                                                  "args encode decode hex fromhex format".split()))
                    self.assertFalse((methods - set(OWN_METHODS)) & set(dir(str) + dir(int) + dir(list) + dir(dict) + dir(bytes)))

    def test_what_is_iterated_at_once(self):
        for name, tree in self.each():
            parents = parents_of(tree)
            for node in ast.walk(tree):
                above = parents.get(node)
                iterated = isinstance(above, (ast.For, ast.comprehension)) and above.iter == node
                called = isinstance(above, ast.Call) and isinstance(above.func, ast.Name) and above.func.id in ITERATING
                joined = isinstance(above, ast.Call) and isinstance(above.func, ast.Attribute) and above.func.attr == "join"
                if isinstance(node, ast.Call) and isinstance(node.func, ast.Name):
                    if node.func.id in ("zip", "enumerate", "reversed"):
                        self.assertTrue(iterated or called, ast.dump(node))
                    if node.func.id == "range":
                        inside = isinstance(above, ast.Call) and getattr(above.func, "id", "") == "reversed"
                        self.assertTrue(iterated or called or inside, ast.dump(node))
                    if node.func.id == "set":
                        self.fail("a set is made: use a dict of True")
                if isinstance(node, ast.Call) and isinstance(node.func, ast.Attribute) and node.func.attr in ("items", "keys", "values"):
                    self.assertTrue(iterated or called, ast.dump(node))
                if isinstance(node, ast.GeneratorExp):
                    self.assertTrue((called or joined) and len(above.args) == 1 and above.keywords == [], ast.dump(node))
                if isinstance(node, ast.SetComp):
                    self.assertTrue(called and above.func.id == "sorted" and above.keywords == [])

    def test_what_is_iterated_is_not_changed(self):
        for name, tree in self.each():
            for loop in ast.walk(tree):
                if not isinstance(loop, ast.For):
                    continue
                over = {ast.dump(part).replace("Store()", "Load()") for part in ast.walk(loop.iter)
                        if isinstance(part, (ast.Name, ast.Attribute))}
                for node in [part for statement in loop.body for part in ast.walk(statement)]:
                    changed = None
                    if isinstance(node, ast.Call) and isinstance(node.func, ast.Attribute) and node.func.attr in CHANGING:
                        changed = node.func.value
                    if isinstance(node, ast.Subscript) and isinstance(node.ctx, (ast.Store, ast.Del)):
                        changed = node.value
                    if changed is not None:
                        self.assertNotIn(ast.dump(changed), over, f"line {node.lineno}")

    def test_names_in_comprehensions(self):
        for name, tree in self.each():
            for function in functions_of(tree):
                assigned = own_assignments(function)
                for node in ast.walk(function):
                    if isinstance(node, (ast.ListComp, ast.SetComp, ast.DictComp, ast.GeneratorExp)):
                        for word in comprehension_names(node):
                            self.assertTrue(word == "_" or word not in assigned, (function.name, word))


if __name__ == "__main__":
    unittest.main()
