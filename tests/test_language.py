"""The rules of the language that the package is written in, as far as they can be read off its files."""

import ast
import builtins
import os
import re
import unittest

FOLDER = os.path.join(os.path.dirname(os.path.dirname(os.path.abspath(__file__))), "passtexts")
BUILTINS = set("""len range enumerate zip min max sum abs sorted reversed int str bool list tuple dict set isinstance
    ord repr any all divmod Exception ValueError TypeError KeyError IndexError super property staticmethod
    classmethod True False None""".split())
LIBRARY = {"math": {"gcd"}, "heapq": {"heappush", "heappop"}, "itertools": {"product", "permutations"}}
METHODS = set("""append clear copy count endswith extend find get index insert isalnum isalpha isdigit islower isspace
    isupper items join keys ljust lower lstrip partition pop remove replace reverse rfind rjust rpartition rsplit
    rstrip setdefault split splitlines startswith strip update upper values zfill bit_length add discard""".split())
DOUBLE = set("""__init__ __eq__ __repr__ __str__ __len__ __enter__ __exit__ __call__ __bool__
    __contains__""".split())
BARRED = set("""register mro elements open input law version_info with_traceback add_note attrgetter breakpoint builtins
    compile copyright credits delattr dir eval exec exit gc getattr globals hasattr help id importlib license locals
    methodcaller os quit setattr type vars sys""".split()) | set(dir(builtins)) - BUILTINS
BARRED_WORDS = re.compile(r"\b(type|typing|enum|Enum|Flag|Generic|Protocol|ABC|namedtuple|abstractmethod)\b|dataclass|"
                          "overload|contextmanager|_wall|_WallAttr")
STATEMENTS = (ast.Assign, ast.AugAssign, ast.If, ast.While, ast.For, ast.Return, ast.Break, ast.Continue, ast.Pass,
              ast.Raise, ast.Assert, ast.With, ast.Try, ast.Expr, ast.FunctionDef, ast.ClassDef, ast.ImportFrom)
TAKE_LISTS = {"any", "all", "min", "max", "sum", "sorted", "list", "tuple", "dict", "join"}
INTERFACE = {
    "errors": ["PassError", "BadProgram", "BadSet", "BadWord", "BadText", "BadNumber", "BadName", "NotThrifty",
               "NotPlain", "Unlike", "TooLarge", "NothingDone", "BadPipe"],
    "programs": {"Program": ["__init__", "__call__", "after", "reached", "__eq__"]},
    "thrifty": {"is_plain": None, "judge_thrifty": None, "Thrifty": ["__init__", "__eq__", "__bool__", "shows"],
                "Twice": ["__init__", "__eq__", "__bool__", "shows"]},
    "alike": {"judge_lengths": None, "judge_same": None, "write_same": None,
              **{name: ["__init__", "__eq__", "__bool__", "shows"] for name in ("Even", "Uneven", "Same", "Differ")}},
    "behind": ["behind", "text_itself", "judge_undoes", "judge_commute", "judge_again"],
    "needless": ["emptied", "needless", "leaned", "trimmed"],
    "origins": {"origins": None, "judge_origins": None,
                **{name: ["__init__", "__eq__", "__bool__", "shows"] for name in ("SameFrom", "OtherFrom")}},
    "beginnings": {**{name: None for name in ("judge_longer", "judge_beginning", "judge_growing", "read_before")},
                   **{name: ["__init__", "__eq__", "__bool__", "shows"]
                      for name in ("Most", "Endless", "Begins", "Strays", "Growing", "Changing")}},
    "rules": {"judge_rule": None, "ignored": None, "exchanged": None, "Respected": ["__eq__", "__bool__", "shows"],
              "Broken": ["__init__", "__eq__", "__bool__", "shows"]},
    "powers": {"written_for": None, "Written": ["__init__", "__eq__", "size", "sign", "part"]},
    "sets": {"TextSet": ["__init__", "__eq__", "__len__", "__contains__", "after", "first"],
             **{name: None for name in ("least", "both", "either", "without", "parting", "domain", "judge_into",
                                        "texts_into")},
             **{name: ["__init__", "__eq__", "__bool__", "shows"] for name in ("Into", "FallsOut")}},
    "making": ["beside", "chosen", "kept", "turned", "respelled", "read_as"],
    "longest": {"longest": None, "judge_rate": None, "most_length": None,
                "Rate": ["__init__", "__eq__", "__bool__", "shows"]},
    "programtexts": ["read_program", "write_program"],
    "scripts": {"read_script": None, "BadScript": None, "Script": ["__init__", "__eq__", "__len__"]},
    "scriptwriting": ["write_script"],
    "scriptruns": {"run_script": None, "Stepper": ["__init__", "read", "back", "text", "rules", "counters", "contents",
                                                   "written", "__len__"]},
    "compiling": ["states_of", "compiled", "judge_scripts", "script_of"],
    "improving": ["unused_rules", "unused_ends", "inlined", "narrowed", "needless_rules", "improved"],
    "pipes": {"Pipe": ["__init__", "__call__", "through", "refuses", "stage", "__len__", "__eq__"],
              **{name: None for name in ("piped", "fused", "merged", "judge_pipes", "needless_stages", "leaned",
                                         "idle_stages", "orders", "judge_swap", "refused_sets", "judge_stages")}},
    "runs": {"Run": ["__init__", "read", "back", "text", "contents", "written", "trial", "attempt", "__len__"]},
}


def read_files():
    files = {}
    for name in sorted(os.listdir(FOLDER)):
        if name != "__pycache__":
            with open(os.path.join(FOLDER, name), encoding="utf-8", newline="") as file:
                files[name] = file.read()
    return files


FILES = read_files()
TREES = {name: ast.parse(text) for name, text in FILES.items() if name.endswith(".py")}


def nodes(kind, tree=None):
    for name, told in TREES.items():
        for node in ast.walk(tree or told):
            if isinstance(node, kind):
                yield name, node


def defined(tree):
    """The names that a file binds at module level."""
    names = []
    for node in tree.body:
        if isinstance(node, (ast.FunctionDef, ast.ClassDef)):
            names.append(node.name)
        elif isinstance(node, ast.Assign):
            names.extend(target.id for target in node.targets)
        elif isinstance(node, ast.ImportFrom):
            names.extend(alias.name for alias in node.names)
    return names


def bound_in(function):
    """The names that a function binds: parameters, variables, nested functions."""
    told = function.args
    names = [arg.arg for arg in told.args + told.posonlyargs + told.kwonlyargs + [told.vararg] if arg]
    for node in ast.walk(function):
        if isinstance(node, ast.Name) and isinstance(node.ctx, ast.Store):
            names.append(node.id)
        elif isinstance(node, (ast.FunctionDef, ast.Lambda)) and node is not function:
            names.extend(arg.arg for arg in node.args.args)
    return names


def is_call_of(node, names):
    return isinstance(node, ast.Call) and isinstance(node.func, ast.Name) and node.func.id in names


def is_plain_value(node):
    """Whether it is a value written out, or a tuple of such."""
    if isinstance(node, ast.Tuple):
        return all(is_plain_value(part) for part in node.elts)
    return isinstance(node, ast.Constant)


class Language(unittest.TestCase):
    def told(self, name, node, rule):
        return f"{rule} {name}:{getattr(node, 'lineno', 0)}"

    def test_files(self):
        self.assertIn("__init__.py", FILES)
        for name in FILES:
            self.assertRegex(name, r"^[a-z][a-z0-9_]*\.py$|^__init__\.py$", "L1")
            self.assertNotRegex(name, r"^(law_|test|site|conftest|usercustomize|sitecustomize)", "L14")
            self.assertNotIn(name[:-3], BUILTINS | BARRED, "L14")

    def test_characters_and_sizes(self):
        for name, text in FILES.items():
            self.assertRegex(text, r"\A[ -~\n]*\Z", f"L14 {name}")
            lines = text.split("\n")
            self.assertLessEqual(len(lines), 400, f"L10 {name}")
            self.assertLessEqual(max(len(line) for line in lines), 120, f"L10 {name}")
            self.assertTrue(text.endswith("\n") and not text.endswith("\n\n"), name)
            self.assertNotRegex(text, r"[ ]\n", name)
        for name, node in nodes(ast.FunctionDef):
            self.assertLessEqual(node.end_lineno - node.lineno + 1, 40, self.told(name, node, "L10"))

    def test_imports(self):
        leads = {}
        for name, node in nodes((ast.Import, ast.ImportFrom)):
            where = self.told(name, node, "L2")
            self.assertIsInstance(node, ast.ImportFrom, where)
            self.assertIn(node, TREES[name].body, where)
            self.assertEqual(node.level, 0, where)
            self.assertFalse([alias for alias in node.names if alias.asname], where)
            told = [alias.name for alias in node.names]
            if node.module in LIBRARY:
                self.assertLessEqual(set(told), LIBRARY[node.module], where)
                continue
            package, file = node.module.split(".")
            self.assertEqual(package, "passtexts", where)
            tree = TREES[file + ".py"]
            own = [part for part in defined(tree) if not any(
                part in [alias.name for alias in other.names] for other in tree.body
                if isinstance(other, ast.ImportFrom))]
            self.assertLessEqual(set(told), set(own), where + " L16")
            leads.setdefault(name, []).append(file + ".py")
            used = {told.id for told in ast.walk(TREES[name]) if isinstance(told, ast.Name)}
            self.assertLessEqual(set(told), used, where + " not used")
        while leads:
            ends = [name for name in leads if not any(told in leads for told in leads[name])]
            self.assertTrue(ends, "L16: files that import one another: " + " ".join(leads))
            leads = {name: told for name, told in leads.items() if name not in ends}

    def test_module_level(self):
        for name, tree in TREES.items():
            names = defined(tree)
            self.assertEqual(len(names), len(set(names)), f"L15 {name}")
            for number, node in enumerate(tree.body):
                docstring = isinstance(node, ast.Expr) and number == 0
                plain = isinstance(node, ast.Assign) and is_plain_value(node.value)
                self.assertTrue(docstring or plain or isinstance(node, (ast.ImportFrom, ast.FunctionDef, ast.ClassDef)),
                                self.told(name, node, "L3"))
        for name, node in nodes(ast.ClassDef):
            self.assertIn(node, TREES[name].body, self.told(name, node, "L15"))
            self.assertFalse(node.decorator_list + node.keywords, self.told(name, node, "L5"))

    def test_statements(self):
        for name, node in nodes(ast.stmt):
            self.assertIsInstance(node, STATEMENTS, self.told(name, node, "L6"))
        for name, node in nodes((ast.Yield, ast.YieldFrom, ast.Await, ast.GeneratorExp, ast.Starred, ast.NamedExpr)):
            self.fail(self.told(name, node, "not used in this package"))
        for name, node in nodes(ast.FunctionDef):
            self.assertFalse(node.decorator_list, self.told(name, node, "L4"))
            self.assertIsNone(node.args.kwarg, self.told(name, node, "L4"))
            if node.args.vararg:
                self.assertIn(node, TREES[name].body, self.told(name, node, "L4"))
            for told in node.args.defaults:
                self.assertIsInstance(told, ast.Constant, self.told(name, node, "L4"))

    def test_values(self):
        for name, node in nodes(ast.Constant):
            where = self.told(name, node, "L7")
            self.assertNotIsInstance(node.value, (float, complex, bytes), where)
            if isinstance(node.value, str):
                self.assertNotIn("%", node.value, where + " L27")
                self.assertNotRegex(node.value, r"\.__?$|^__.*__$", where + " L27")
        for name, node in nodes(ast.BinOp):
            self.assertNotIsInstance(node.op, (ast.Div, ast.MatMult, ast.Pow), self.told(name, node, "L7"))
        for name, node in nodes(ast.Compare):
            for op, right in zip(node.ops, node.comparators):
                if isinstance(op, (ast.Is, ast.IsNot)):
                    self.assertTrue(isinstance(right, ast.Constant) and right.value in (None, True, False),
                                    self.told(name, node, "L20"))

    def test_builtins_and_names(self):
        for name, tree in TREES.items():
            at_top = set(defined(tree))
            classes_and_imports = {node.name for node in tree.body if isinstance(node, ast.ClassDef)}
            for node in tree.body:
                if isinstance(node, ast.ImportFrom):
                    classes_and_imports |= {alias.name for alias in node.names}
            bound = set()
            for _, node in nodes(ast.FunctionDef, tree):
                names = bound_in(node)
                bound |= set(names)
                self.assertFalse(set(names) & classes_and_imports, self.told(name, node, "L15"))
                self.assertFalse(set(names) & (BUILTINS | BARRED), self.told(name, node, "L15"))
            self.assertFalse(at_top & (BUILTINS | BARRED), f"L15 {name}")
            for node in ast.walk(tree):
                if isinstance(node, ast.Name) and isinstance(node.ctx, ast.Load):
                    self.assertIn(node.id, at_top | bound | BUILTINS, self.told(name, node, "L8"))
                    self.assertNotEqual(node.id, "_", self.told(name, node, "L12"))

    def test_names(self):
        for name, tree in TREES.items():
            for node in ast.walk(tree):
                for told in [getattr(node, part, None) for part in ("id", "attr", "arg", "name")]:
                    if isinstance(told, str):
                        where = self.told(name, node, "L12")
                        self.assertTrue(told in DOUBLE or re.match(r"^(_|_?[A-Za-z][A-Za-z0-9_]*)$", told), where)
                        self.assertNotIn(told, ("register", "mro", "elements", "open", "input", "law"), where + " L17")
        for name, text in FILES.items():
            code = re.sub(r"#.*|\"\"\"(.|\n)*?\"\"\"", "", text)
            self.assertIsNone(BARRED_WORDS.search(code), f"L17 {name}")

    def test_methods_that_are_called(self):
        own = {method.name for _, node in nodes(ast.ClassDef) for method in node.body
               if isinstance(method, ast.FunctionDef)}
        held = {node.attr for _, node in nodes(ast.Attribute) if isinstance(node.ctx, ast.Store)}
        constants = {target.id for _, node in nodes(ast.ClassDef) for told in node.body
                     if isinstance(told, ast.Assign) for target in told.targets}
        for name, node in nodes(ast.Call):
            if isinstance(node.func, ast.Attribute):
                where = self.told(name, node, "L25")
                self.assertIn(node.func.attr, own | METHODS | {"program"}, where)
                self.assertNotEqual(node.func.attr, "sort", where)
                if node.func.attr in METHODS - own:
                    self.assertFalse(node.keywords, where)
        called = {id(node.func) for _, node in nodes(ast.Call)}
        for name, node in nodes(ast.Attribute):
            if isinstance(node.ctx, ast.Load) and id(node) not in called:
                self.assertIn(node.attr, held | constants, self.told(name, node, "L18"))
        self.assertFalse(held & {"items", "keys", "values", "pop", "update", "append", "clear", "extend", "insert",
                                 "remove", "reverse", "setdefault", "sort", "args", "encode", "decode", "hex",
                                 "fromhex", "format"}, "L26")

    def test_attributes_and_methods_of_one_class(self):
        for name, node in nodes(ast.ClassDef):
            methods = [told.name for told in node.body if isinstance(told, ast.FunctionDef)]
            self.assertEqual(len(methods), len(set(methods)), self.told(name, node, "L18"))
            held = {told.attr for _, told in nodes(ast.Attribute, node) if isinstance(told.ctx, ast.Store)}
            self.assertFalse(set(methods) & held, self.told(name, node, "L18"))
            for told in methods:
                self.assertTrue(not told.startswith("__") or told in DOUBLE, self.told(name, node, "L5"))

    def test_comprehensions_in_calls(self):
        for name, node in nodes(ast.Call):
            where = self.told(name, node, "L23")
            if is_call_of(node, {"reversed", "len"}):
                inner = node.args[0]
                viewed = isinstance(inner, ast.Call) and isinstance(inner.func, ast.Attribute) and inner.func.attr in (
                    "keys", "values", "items")
                self.assertFalse(viewed or is_call_of(inner, {"zip", "enumerate", "reversed"}), where)
        iterated = {id(node.iter) for _, node in nodes((ast.For, ast.comprehension))}
        for name, node in nodes(ast.Call):
            if is_call_of(node, TAKE_LISTS):
                iterated |= {id(told) for told in node.args}
            if is_call_of(node, {"enumerate", "zip", "reversed", "len", "product", "permutations"}):
                iterated |= {id(told) for told in node.args}
        for name, node in nodes(ast.Call):
            viewed = isinstance(node.func, ast.Attribute) and node.func.attr in ("keys", "values", "items")
            if viewed or is_call_of(node, {"zip", "enumerate", "reversed", "range", "product", "permutations"}):
                self.assertIn(id(node), iterated, self.told(name, node, "L23"))

    def test_sets(self):
        for name, tree in TREES.items():
            allowed = set()
            for node in ast.walk(tree):
                if is_call_of(node, {"sorted", "len"}) and not node.keywords:
                    allowed |= {id(told) for told in node.args}
                if isinstance(node, ast.Assign) and isinstance(node.targets[0], ast.Name):
                    allowed.add(id(node.value))
            for node in ast.walk(tree):
                if isinstance(node, (ast.Set, ast.SetComp)) or is_call_of(node, {"set", "frozenset"}):
                    self.assertIn(id(node), allowed, self.told(name, node, "L24"))
            for _, function in nodes(ast.FunctionDef, tree):
                self.check_stored_sets(name, function)

    def check_stored_sets(self, name, function):
        stored = [node.targets[0].id for node in ast.walk(function) if isinstance(node, ast.Assign)
                  and is_call_of(node.value, {"set"}) and isinstance(node.targets[0], ast.Name)]
        self.assertEqual(len(stored), len(set(stored)), self.told(name, function, "L24"))
        fine = set()
        for node in ast.walk(function):
            if isinstance(node, ast.Attribute) and node.attr in ("add", "discard"):
                fine.add(id(node.value))
            elif isinstance(node, ast.Compare) and isinstance(node.ops[0], (ast.In, ast.NotIn)):
                fine.add(id(node.comparators[0]))
            elif is_call_of(node, {"sorted", "len"}):
                fine |= {id(told) for told in node.args}
        for node in ast.walk(function):
            if isinstance(node, ast.Name) and node.id in stored and isinstance(node.ctx, ast.Load):
                self.assertIn(id(node), fine, self.told(name, node, "L24"))

    def test_what_is_gone_through_is_not_changed(self):
        changing = {"append", "clear", "extend", "insert", "pop", "remove", "reverse", "setdefault", "update", "add"}
        for name, loop in nodes(ast.For):
            gone = ast.unparse(loop.iter)
            for node in ast.walk(loop):
                if isinstance(node, ast.Call) and isinstance(node.func, ast.Attribute) and node.func.attr in changing:
                    self.assertNotEqual(ast.unparse(node.func.value), gone, self.told(name, node, "L23"))
                if isinstance(node, ast.Subscript) and isinstance(node.ctx, (ast.Store, ast.Del)):
                    self.assertNotEqual(ast.unparse(node.value), gone, self.told(name, node, "L23"))

    def test_errors(self):
        for name, node in nodes(ast.Raise):
            self.assertTrue(node.exc is None or isinstance(node.exc, ast.Call) and isinstance(node.exc.func, ast.Name),
                            self.told(name, node, "L19"))
        for name, node in nodes(ast.ExceptHandler):
            self.assertIsInstance(node.type, (ast.Name, ast.Tuple), self.told(name, node, "L19"))

    def test_double_underscore_methods(self):
        for name, node in nodes(ast.FunctionDef):
            where = self.told(name, node, "L28")
            returns = [told for told in ast.walk(node) if isinstance(told, ast.Return)]
            if node.name == "__init__":
                self.assertFalse(returns, where)
            if node.name == "__len__":
                self.assertTrue(all(is_call_of(told.value, {"len"}) for told in returns) and returns, where)
            if node.name == "__bool__":
                self.assertTrue(all(isinstance(told.value, ast.Constant) for told in returns) and returns, where)
            if node.name == "__exit__":
                self.assertNotRegex(ast.unparse(node), r"\bvalue\b.*:\n(.|\n)*\bvalue\b|[-\[*]", where)

    def test_lambdas(self):
        met = set()
        for name, node in nodes(ast.Lambda):
            key = (name, node.lineno, tuple(arg.arg for arg in node.args.args))
            self.assertNotIn(key, met, self.told(name, node, "L13"))
            met.add(key)
        for name, node in nodes(ast.FunctionDef):
            if node.name.startswith("__"):
                inner = [told for told in ast.walk(node) if isinstance(told, (ast.Lambda, ast.FunctionDef))]
                self.assertEqual(inner, [node], self.told(name, node, "L28"))

    def test_interface(self):
        for file, listed in INTERFACE.items():
            tree = TREES[file + ".py"]
            own = {node.name: node for node in tree.body if isinstance(node, (ast.FunctionDef, ast.ClassDef))}
            for name in listed:
                self.assertIn(name, own, "L16")
                if isinstance(listed, dict) and listed[name]:
                    methods = {told.name for told in own[name].body if isinstance(told, ast.FunctionDef)}
                    self.assertLessEqual(set(listed[name]), methods, "L5")
