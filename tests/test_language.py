"""../shared/LANGUAGE.md: what of it can be looked up in the text of the package."""

import ast
import builtins
import io
import re
import tokenize
import unittest
from collections import Counter, deque
from pathlib import Path

PACKAGE = Path(__file__).resolve().parent.parent / "unknowntakes"
FILES = {path.stem: path.read_text(encoding="utf-8") for path in sorted(PACKAGE.glob("*.py"))}
TREES = {stem: ast.parse(text) for stem, text in FILES.items()}

ALLOWED_BUILTINS = set("""
    len range enumerate zip min max sum abs sorted reversed int str bool bytes list tuple dict set frozenset
    isinstance ord repr any all divmod pow super property staticmethod classmethod iter next type getattr hasattr
    setattr map Exception ValueError TypeError KeyError IndexError LookupError ZeroDivisionError ArithmeticError
    OverflowError RuntimeError NotImplementedError AttributeError StopIteration NotImplemented object""".split())

BUILTIN_METHODS = set("""
    append clear copy count endswith extend find get index insert isalnum isalpha isdigit islower isspace isupper
    items join keys ljust lower lstrip partition pop remove replace reverse rfind rjust rpartition rsplit rstrip
    setdefault split splitlines startswith strip update upper values zfill bit_length title capitalize swapcase
    casefold center expandtabs removeprefix removesuffix rindex isascii isdecimal isnumeric istitle isidentifier
    isprintable translate add discard sort format __init__""".split())

DUNDERS = set("""
    __init__ __eq__ __repr__ __str__ __len__ __enter__ __exit__ __call__ __iter__ __lt__ __le__ __gt__ __ge__ __ne__
    __add__ __sub__ __mul__ __floordiv__ __mod__ __pow__ __and__ __or__ __xor__ __lshift__ __rshift__ __neg__ __pos__
    __invert__ __abs__ __bool__ __contains__ __getitem__ __setitem__""".split())

STATEMENTS = (
    ast.Assign, ast.AugAssign, ast.If, ast.While, ast.For, ast.Return, ast.Break, ast.Continue, ast.Pass, ast.Raise,
    ast.Assert, ast.Delete, ast.Nonlocal, ast.Match, ast.With, ast.Try, ast.Expr, ast.FunctionDef, ast.ClassDef,
    ast.ImportFrom)

NOWHERE = set("register mro elements open input law version_info with_traceback add_note".split())
FRAMES = re.compile(r"(f|tb|co|gi|cr|ag)_[a-z]+")
NOT_NAMES = set("""
    attrgetter breakpoint builtins compile copyright credits delattr dir eval exec exit gc getattr globals hasattr
    help id importlib license locals methodcaller os quit setattr super type vars sys __name__""".split())
NOT_WORDS = re.compile(
    r"\b(type|typing|typing_extensions|enum|Enum|IntEnum|StrEnum|Flag|IntFlag|Generic|Protocol|ABC|ABCMeta"
    r"|namedtuple|NamedTuple|TypedDict|TYPE_CHECKING|abstractmethod)\b|dataclass|overload|contextmanager")
BAD_STARTS = ("_wall", "_pe_", "_dcw_", "_enum_", "_cm_", "_twin_re_", "_lay_", "_law_", "_stub_", "_sre",
              "_WallAttr")
BAD_NAMES = re.compile(r"(_cold|_tuplegetter|_outside|_record|_written_out|_member_names)[0-9_]*")


def tokens_of(stem):
    return list(tokenize.generate_tokens(io.StringIO(FILES[stem]).readline))


def nodes(kind):
    for stem, tree in TREES.items():
        for node in ast.walk(tree):
            if isinstance(node, kind):
                yield stem, node


def functions():
    yield from nodes((ast.FunctionDef, ast.AsyncFunctionDef))


def parameters(function):
    spec = function.args
    found = [*spec.posonlyargs, *spec.args, *spec.kwonlyargs]
    return [arg.arg for arg in [*found, *[arg for arg in (spec.vararg, spec.kwarg) if arg]]]


def bound_names(function):
    """Parameters, local variables and nested functions."""
    names = set(parameters(function))
    for node in ast.walk(function):
        if isinstance(node, ast.Name) and isinstance(node.ctx, ast.Store):
            names.add(node.id)
        if isinstance(node, ast.arg):
            names.add(node.arg)
        if isinstance(node, ast.FunctionDef) and node is not function:
            names.add(node.name)
    return names


def module_names(tree):
    names = []
    for node in tree.body:
        if isinstance(node, ast.ImportFrom):
            names += [alias.name for alias in node.names]
        elif isinstance(node, (ast.FunctionDef, ast.ClassDef)):
            names.append(node.name)
        elif isinstance(node, ast.Assign):
            names += [target.id for target in node.targets]
    return names


def builtin_parts():
    """All that values of Python's own have, methods or not, but for double-underscore names."""
    kinds = [one for one in vars(builtins).values() if isinstance(one, type)]
    worths = [{}.keys(), {}.values(), {}.items(), (one for one in ()), builtin_parts, len, deque()]
    return {name for one in [*kinds, *worths] for name in dir(one) if not name.startswith("__")}


def methods_in(trees):
    """{name: the decorators of the methods of this name}, but for double-underscore ones."""
    found = {}
    for tree in trees.values():
        for node in ast.walk(tree):
            if isinstance(node, ast.ClassDef):
                for one in node.body:
                    if isinstance(one, ast.FunctionDef) and not one.name.startswith("__"):
                        found.setdefault(one.name, []).extend(mark.id for mark in one.decorator_list)
    return found


def handed_on(trees):
    """(file, attribute) wherever a method of the trees' classes, no property, is read without a call."""
    plain = {name for name, marks in methods_in(trees).items() if "property" not in marks}
    for stem, tree in trees.items():
        called = {id(node.func) for node in ast.walk(tree) if isinstance(node, ast.Call)}
        for node in ast.walk(tree):
            if isinstance(node, ast.Attribute) and node.attr in plain and id(node) not in called:
                yield stem, node


def handed_on_with_a_builtin_name(trees):
    """L25: "file:row name" wherever a method is handed on although a value of Python's own has that name."""
    taken = builtin_parts()
    return [f"{stem}:{node.lineno} {node.attr}" for stem, node in handed_on(trees) if node.attr in taken]


def docstrings():
    found = set()
    for _, node in nodes((ast.Module, ast.FunctionDef, ast.ClassDef)):
        if node.body and isinstance(node.body[0], ast.Expr) and isinstance(node.body[0].value, ast.Constant):
            found.add(id(node.body[0].value))
    return found


class Files(unittest.TestCase):
    def test_folder(self):
        for path in PACKAGE.rglob("*"):
            if "__pycache__" not in path.parts:
                self.assertTrue(path.is_file() and path.suffix == ".py", path)
                self.assertRegex(path.stem, r"^(__init__|[a-z][a-z0-9_]*)$")
                self.assertNotIn(path.stem, dir(builtins))
                self.assertNotRegex(path.stem, r"^(law_.*|tests?|testing|test_.*|site|conftest)$")
                self.assertIsNone(NOT_WORDS.fullmatch(path.stem))
        self.assertLessEqual(len(FILES), 100)
        self.assertIn("__init__", FILES)

    def test_characters(self):
        for stem, text in FILES.items():
            bad = {sign for sign in text if sign != "\n" and not " " <= sign <= "~"}
            self.assertEqual(bad, set(), stem)

    def test_sizes(self):
        for stem, text in FILES.items():
            lines = text.split("\n")
            self.assertLessEqual(len(lines), 399, stem)
            self.assertLessEqual(max(map(len, lines)), 120, stem)
        for stem, node in functions():
            self.assertLessEqual(node.end_lineno - node.lineno + 1, 40, f"{stem}.{node.name}")


class Imports(unittest.TestCase):
    def test_form(self):
        for stem, node in nodes((ast.Import, ast.ImportFrom)):
            self.assertIsInstance(node, ast.ImportFrom, stem)
            self.assertEqual(node.level, 0)
            self.assertRegex(node.module, r"^unknowntakes\.[a-z_]+$")
            module = node.module.split(".")[1]
            own = [one.name for one in TREES[module].body if isinstance(one, (ast.FunctionDef, ast.ClassDef))]
            own += [one.targets[0].id for one in TREES[module].body if isinstance(one, ast.Assign)]
            for alias in node.names:
                self.assertIsNone(alias.asname)
                self.assertIn(alias.name, own, f"{stem} imports {alias.name} from elsewhere")

    def test_at_the_top(self):
        for stem, tree in TREES.items():
            kinds = [isinstance(node, ast.ImportFrom) for node in tree.body if not isinstance(node, ast.Expr)]
            self.assertEqual(kinds, sorted(kinds, reverse=True), stem)
            inner = sum(isinstance(node, ast.ImportFrom) for node in ast.walk(tree))
            self.assertEqual(inner, sum(kinds), stem)

    def test_each_is_used(self):
        for stem, tree in TREES.items():
            read = {node.id for node in ast.walk(tree) if isinstance(node, ast.Name)}
            for node in tree.body:
                if isinstance(node, ast.ImportFrom):
                    self.assertLessEqual({alias.name for alias in node.names}, read, stem)

    def test_no_two_files_import_from_each_other(self):
        reached = {stem: {node.module.split(".")[1] for node in tree.body if isinstance(node, ast.ImportFrom)}
                   for stem, tree in TREES.items()}
        for _ in TREES:
            reached = {stem: names.union(*[reached[name] for name in names]) for stem, names in reached.items()}
        for stem, names in reached.items():
            self.assertNotIn(stem, names)
        self.assertEqual(reached["__init__"], set())


class Names(unittest.TestCase):
    def all_names(self):
        for stem, node in nodes(ast.AST):
            if isinstance(node, ast.Name):
                yield stem, node.id, "read" if isinstance(node.ctx, ast.Load) else "bound"
            elif isinstance(node, ast.Attribute):
                yield stem, node.attr, "attribute"
            elif isinstance(node, (ast.FunctionDef, ast.ClassDef)):
                yield stem, node.name, "bound"
            elif isinstance(node, ast.arg):
                yield stem, node.arg, "bound"
            elif isinstance(node, ast.keyword) and node.arg:
                yield stem, node.arg, "keyword"

    def test_plain(self):
        for stem, name, kind in self.all_names():
            if name != "_" and name not in DUNDERS:
                self.assertRegex(name, r"^_?[A-Za-z][A-Za-z0-9_]*$", stem)
            self.assertFalse(name.startswith(BAD_STARTS) or BAD_NAMES.fullmatch(name), name)
            self.assertNotIn(name, NOWHERE, stem)
            self.assertIsNone(FRAMES.fullmatch(name), name)
            if kind == "bound":
                self.assertNotIn(name, NOT_NAMES, stem)
            self.assertFalse(kind == "read" and name == "_", stem)

    def test_words(self):
        for stem in FILES:
            for token in tokens_of(stem):
                if token.type in (tokenize.NAME, tokenize.STRING) and not token.string.startswith('"""'):
                    self.assertIsNone(NOT_WORDS.search(token.string), token)
            for word in ("(type)", "Meta", "metaclass=", "_wall", "_WallAttr"):
                self.assertNotIn(word, FILES[stem])

    def test_no_builtin_has_another_meaning(self):
        for stem, name, kind in self.all_names():
            if kind == "bound" and name not in DUNDERS:
                self.assertNotIn(name, set(dir(builtins)) - {"_"}, stem)

    def test_no_name_of_an_import_or_class_inside(self):
        for stem, node in functions():
            tree = TREES[stem]
            taken = {one.name for one in tree.body if isinstance(one, ast.ClassDef)}
            for one in tree.body:
                if isinstance(one, ast.ImportFrom):
                    taken |= {alias.name for alias in one.names}
            self.assertEqual(bound_names(node) & taken, set(), f"{stem}.{node.name}")

    def test_one_binding_for_each_name(self):
        for stem, tree in TREES.items():
            names = module_names(tree)
            self.assertEqual(len(names), len(set(names)), stem)

    def test_builtins_that_are_read(self):
        for stem, tree in TREES.items():
            own = set(module_names(tree))
            for node in ast.walk(tree):
                if isinstance(node, ast.FunctionDef):
                    own |= bound_names(node)
            for node in ast.walk(tree):
                if isinstance(node, ast.Name) and isinstance(node.ctx, ast.Load) and node.id not in own:
                    self.assertIn(node.id, ALLOWED_BUILTINS, stem)

    def test_own_methods_and_attributes(self):
        taken = set()
        for worth in ("", 0, [], (), {}, set(), b""):
            taken |= {name for name in dir(worth) if not name.startswith("__")}
        allowed = set("count index title find get join lower upper split strip copy add".split())
        for stem, node in nodes(ast.Attribute):
            if isinstance(node.ctx, ast.Store):
                self.assertNotIn(node.attr, taken - allowed, stem)
        for stem, node in nodes(ast.ClassDef):
            for method in node.body:
                if isinstance(method, ast.FunctionDef):
                    self.assertNotIn(method.name, taken - BUILTIN_METHODS, stem)


class Code(unittest.TestCase):
    def test_module_level(self):
        for stem, tree in TREES.items():
            for node in tree.body:
                kinds = (ast.ImportFrom, ast.FunctionDef, ast.ClassDef, ast.Assign, ast.Expr)
                self.assertIsInstance(node, kinds, stem)
                if isinstance(node, ast.Expr):
                    self.assertIsInstance(node.value, ast.Constant)
                if isinstance(node, ast.Assign):
                    self.assertEqual(len(node.targets), 1)
                    self.assertIsInstance(node.targets[0], ast.Name)

    def test_statements(self):
        for stem, node in nodes(ast.stmt):
            self.assertIsInstance(node, STATEMENTS, f"{stem}:{node.lineno}")
            if isinstance(node, ast.Expr):
                self.assertIsInstance(node.value, (ast.Call, ast.Constant, ast.Yield), f"{stem}:{node.lineno}")

    def test_classes_and_decorators(self):
        for stem, node in nodes(ast.ClassDef):
            self.assertEqual((node.decorator_list, node.keywords), ([], []))
            names = []
            for method in node.body:
                if isinstance(method, ast.Expr):
                    self.assertIsInstance(method.value, ast.Constant)
                else:
                    self.assertIsInstance(method, ast.FunctionDef, stem)
                    names.append(method.name)
                    if method.name.startswith("__"):
                        self.assertIn(method.name, DUNDERS)
                        self.assertEqual(method.decorator_list, [])
                    for decorator in method.decorator_list:
                        self.assertIn(decorator.id, ("property", "staticmethod"))
            self.assertEqual(len(names), len(set(names)), node.name)
            if "__getitem__" in names:
                self.assertIn("__iter__", names)
        for stem, tree in TREES.items():
            for node in tree.body:
                if isinstance(node, ast.FunctionDef):
                    self.assertEqual(node.decorator_list, [], stem)

    def test_no_name_is_a_method_and_an_attribute(self):
        for stem, node in nodes(ast.ClassDef):
            methods = {one.name for one in node.body if isinstance(one, ast.FunctionDef)}
            stored = {one.attr for one in ast.walk(node)
                      if isinstance(one, ast.Attribute) and isinstance(one.ctx, ast.Store)}
            self.assertEqual(methods & stored, set(), stem)

    def test_no_method_is_called_by_the_name_of_an_attribute(self):
        # L5 and L18 ask this of what operators and properties run; here it holds of the whole package.
        stored = {node.attr for _, node in nodes(ast.Attribute) if isinstance(node.ctx, ast.Store)}
        self.assertLessEqual({"index", "name", "step", "line", "ring", "kind"}, stored)
        for stem, node in nodes(ast.Call):
            if isinstance(node.func, ast.Attribute):
                self.assertNotIn(node.func.attr, stored, f"{stem}:{node.lineno}")

    def test_properties_and_methods_have_unlike_names(self):
        properties, methods = set(), set()
        for _, node in nodes(ast.ClassDef):
            for one in node.body:
                if isinstance(one, ast.FunctionDef):
                    plain = not any(isinstance(mark, ast.Name) and mark.id == "property" for mark in one.decorator_list)
                    (methods if plain else properties).add(one.name)
        self.assertEqual(properties & methods, set())
        self.assertEqual(properties & BUILTIN_METHODS, set())

    def test_attributes_are_assigned_through_a_local_name(self):
        for stem, node in nodes(ast.Attribute):
            if isinstance(node.ctx, ast.Store):
                self.assertIsInstance(node.value, ast.Name, f"{stem}:{node.lineno}")

    def test_attributes_that_are_read(self):
        known = set(BUILTIN_METHODS)
        for _, node in nodes((ast.Attribute, ast.ClassDef)):
            if isinstance(node, ast.ClassDef):
                known |= {one.name for one in node.body if isinstance(one, ast.FunctionDef)}
            elif isinstance(node.ctx, ast.Store):
                known.add(node.attr)
        for stem, node in nodes(ast.Attribute):
            self.assertIn(node.attr, known, stem)

    def test_no_floats_and_no_true_division(self):
        for stem, node in nodes((ast.Constant, ast.Div)):
            self.assertFalse(isinstance(node, ast.Div), stem)
            if isinstance(node, ast.Constant):
                self.assertNotIsInstance(node.value, (float, complex))

    def test_no_generator_expressions_where_classes_compare(self):
        self.assertEqual([stem for stem, _ in nodes(ast.GeneratorExp)], [])

    def test_sets_are_not_used(self):
        self.assertEqual([stem for stem, _ in nodes((ast.Set, ast.SetComp))], [])

    def test_is_stands_beside_plain_words(self):
        for stem, node in nodes(ast.Compare):
            for sign, side in zip(node.ops, node.comparators):
                if isinstance(sign, (ast.Is, ast.IsNot)):
                    self.assertTrue(isinstance(side, ast.Constant) and side.value in (None, True, False), stem)

    def test_errors_are_made_on_the_spot(self):
        for stem, node in nodes(ast.Raise):
            self.assertIsInstance(node.exc, ast.Call, stem)
            self.assertIsInstance(node.exc.func, ast.Name, stem)

    def test_defaults_are_plain(self):
        for stem, node in functions():
            for worth in [*node.args.defaults, *[one for one in node.args.kw_defaults if one]]:
                ast.literal_eval(worth)
                self.assertFalse(any(isinstance(one, (ast.List, ast.Dict)) for one in ast.walk(worth)), stem)


    def test_lists_and_dicts_of_a_module_are_only_read(self):
        for stem, tree in TREES.items():
            tables = {node.targets[0].id for node in tree.body
                      if isinstance(node, ast.Assign) and isinstance(node.value, (ast.List, ast.Dict))}
            for other in TREES.values():
                for node in other.body:
                    if isinstance(node, ast.ImportFrom) and node.module == f"unknowntakes.{stem}":
                        self.check_tables(other, tables & {alias.name for alias in node.names})
            self.check_tables(tree, tables)

    def check_tables(self, tree, tables):
        """Each table is only looked up: by an index, by get, behind in."""
        looked_up = set()
        for node in ast.walk(tree):
            if isinstance(node, ast.Subscript):
                looked_up.add(id(node.value))
                self.assertFalse(isinstance(node.value, ast.Name) and node.value.id in tables
                                 and not isinstance(node.ctx, ast.Load))
            if isinstance(node, ast.Compare):
                looked_up |= {id(side) for sign, side in zip(node.ops, node.comparators)
                              if isinstance(sign, (ast.In, ast.NotIn))}
            if isinstance(node, ast.Call) and isinstance(node.func, ast.Attribute) and node.func.attr == "get":
                looked_up.add(id(node.func.value))
        for node in ast.walk(tree):
            if isinstance(node, ast.Name) and isinstance(node.ctx, ast.Load) and node.id in tables:
                self.assertIn(id(node), looked_up, f"{node.id}:{node.lineno}")

    def test_generators(self):
        names = Counter(node.name for _, node in functions())
        made = [node for _, node in functions() if any(isinstance(one, ast.Yield) for one in ast.walk(node))]
        for node in made:
            self.assertEqual(names[node.name], 1, node.name)
            self.assertEqual(node.decorator_list, [])
            for one in ast.walk(node):
                self.assertNotIsInstance(one, (ast.Try, ast.With, ast.YieldFrom))
        called = {node.func.id for _, node in nodes(ast.Call) if isinstance(node.func, ast.Name)}
        self.assertEqual(called & {node.name for node in made}, set())

    def test_no_two_lambdas_on_a_line(self):
        places = [(stem, node.lineno) for stem, node in nodes(ast.Lambda)]
        self.assertEqual(len(places), len(set(places)))

    def test_lists_are_sorted_by_sorted_alone(self):
        for stem, node in nodes(ast.Call):
            if isinstance(node.func, ast.Attribute):
                self.assertNotEqual(node.func.attr, "sort", stem)

    def test_super_is_called_directly_in_a_method(self):
        found = 0
        for stem, node in nodes(ast.ClassDef):
            for method in node.body:
                plain = [one for one in ast.walk(method) if isinstance(one, ast.Name) and one.id == "super"]
                nested = [one for inner in ast.walk(method) if isinstance(inner, (ast.Lambda, ast.ListComp, ast.DictComp))
                          or isinstance(inner, ast.FunctionDef) and inner is not method
                          for one in ast.walk(inner) if isinstance(one, ast.Name) and one.id == "super"]
                self.assertEqual(nested, [], f"{stem}.{node.name}")
                calls = [one for one in ast.walk(method) if isinstance(one, ast.Call)
                         and isinstance(one.func, ast.Attribute) and isinstance(one.func.value, ast.Call)
                         and isinstance(one.func.value.func, ast.Name) and one.func.value.func.id == "super"]
                self.assertEqual(len(calls), len(plain))
                for one in calls:
                    self.assertEqual((one.func.value.args, one.func.value.keywords), ([], []))
                    self.assertTrue(one.func.attr == "__init__" == method.name or not one.func.attr.startswith("__"))
                    self.assertFalse(any(isinstance(name, ast.Name) and isinstance(name.ctx, ast.Store)
                                         and name.id == method.args.args[0].arg for name in ast.walk(method)))
                found += len(calls)
        self.assertEqual(sum(isinstance(node, ast.Name) and node.id == "super" for _, node in nodes(ast.Name)), found)

    def test_methods_that_are_read_without_a_call(self):
        classes = {node.name for _, node in nodes(ast.ClassDef)}
        methods = methods_in(TREES)
        for stem, node in handed_on(TREES):
            self.assertIsInstance(node.value, ast.Name, f"{stem}:{node.lineno}")
            self.assertNotIn(node.value.id, classes)
            self.assertEqual(methods[node.attr], [])
        self.assertEqual(handed_on_with_a_builtin_name(TREES), [])

    def test_what_values_of_pythons_own_have(self):
        for worth in (range(3), "a", 1, True, [1], {1: 2}, {1}, frozenset(), (1,), b"a", None, slice(1)):
            self.assertLessEqual({name for name in dir(worth) if not name.startswith("__")}, builtin_parts())
        self.assertLessEqual({"start", "stop", "step", "count", "index", "copy", "real", "keys", "add"}, builtin_parts())
        self.assertEqual(builtin_parts() & {"take", "mark", "know", "measure", "edit", "go", "watch"}, set())

    def test_methods_with_a_name_of_a_builtin_value_are_found_where_they_are_handed_on(self):
        handing = ("act = {'a': box.low, 'b': box.NAME}", "acts = [box.NAME]", "acts = (box.low, box.NAME)",
                   "act = box.NAME", "box.held = box.NAME", "return box.NAME", "return used(box.NAME)",
                   "return sorted(rows, key=box.NAME)", "return box.NAME == box.low", "return box.inner.NAME")
        others = ("return box.NAME(1)", "return box.NAME(*rows)", "return used(box.NAME(1), box.low)",
                  "act = {'a': box.low}", "NAME = 1")
        for name in "start stop step count index copy real items add upper decode bit_length".split():
            made = f"class Box:\n    def {name}(self, n):\n        return n\n\n    def low(self, n):\n        return n\n"
            for row in handing + others:
                use = f"def told(box):\n    {row}\n".replace("NAME", name)
                found = handed_on_with_a_builtin_name({"boxes": ast.parse(made), "uses": ast.parse(use)})
                self.assertEqual(found, [f"uses:2 {name}"] if row in handing else [], use)

    def test_no_method_is_read_off_a_class_but_static_ones(self):
        classes = {node.name for _, node in nodes(ast.ClassDef)}
        for stem, node in nodes(ast.Attribute):
            if isinstance(node.value, ast.Name) and node.value.id in classes:
                self.assertEqual(methods_in(TREES)[node.attr][:1], ["staticmethod"], f"{stem}:{node.lineno}")

    def test_no_attribute_is_stored_by_the_name_of_a_property(self):
        properties = {name for name, marks in methods_in(TREES).items() if "property" in marks}
        self.assertLessEqual({"sheet", "program", "branch", "branches", "least", "hull", "state"}, properties)
        for stem, node in nodes(ast.Attribute):
            if not isinstance(node.ctx, ast.Load):
                self.assertNotIn(node.attr, properties, f"{stem}:{node.lineno}")
        for stem, node in functions():
            if node.name in properties:
                self.assertEqual([mark.id for mark in node.decorator_list], ["property"])

    def test_stars_in_calls_stand_before_names_and_attributes_of_names(self):
        properties = {name for name, marks in methods_in(TREES).items() if "property" in marks}
        for stem, node in nodes(ast.Call):
            starred = [one.value for one in node.args if isinstance(one, ast.Starred)]
            for one in starred:
                self.assertTrue(isinstance(one, ast.Name) or isinstance(one, ast.Attribute)
                                and isinstance(one.value, ast.Name) and one.attr not in properties, f"{stem}:{node.lineno}")
            self.assertFalse(any(keyword.arg is None for keyword in node.keywords), stem)
            self.assertFalse(starred and node.keywords, f"{stem}:{node.lineno}")

    def test_what_is_called(self):
        for stem, node in nodes(ast.Call):
            self.assertIsInstance(node.func, (ast.Name, ast.Attribute), f"{stem}:{node.lineno}")

    def test_kept_ranges_and_views(self):
        kinds = ("zip", "enumerate", "reversed", "range")
        for stem, node in functions():
            kept = {}
            for one in ast.walk(node):
                if isinstance(one, ast.Assign) and isinstance(one.value, ast.Call):
                    call = one.value.func
                    if isinstance(call, ast.Name) and call.id in kinds or isinstance(call, ast.Attribute) and call.attr in (
                            "items", "keys", "values"):
                        kept[one.targets[0].id] = call.id
            for one in ast.walk(node):
                if isinstance(one, ast.Call):
                    for arg in one.args:
                        if isinstance(arg, ast.Name) and arg.id in kept:
                            self.assertIn(one.func.id, ("list", "tuple", "sorted", "sum", "min", "max", "any", "all", "len"))
                if isinstance(one, ast.Return) and isinstance(one.value, ast.Name):
                    self.assertNotIn(one.value.id, kept)

    def test_operators_are_used_by_their_signs(self):
        for stem, node in nodes(ast.Attribute):
            self.assertFalse(node.attr.startswith("__") and node.attr != "__init__", f"{stem}:{node.lineno}")


class Operators(unittest.TestCase):
    """L5: what an operator or a property runs changes nothing that it did not create, and calls nothing it is passed."""

    def own(self):
        """name: the functions, methods and classes' __init__ of that name."""
        found = {}
        for stem, node in functions():
            found.setdefault(node.name, []).append((stem, node))
        for stem, node in nodes(ast.ClassDef):
            found.setdefault(node.name, []).extend(
                (stem, one) for one in node.body if isinstance(one, ast.FunctionDef) and one.name == "__init__")
        return found

    def called(self, node):
        for one in ast.walk(node):
            if isinstance(one, ast.Call) and isinstance(one.func, (ast.Name, ast.Attribute)):
                yield one.func.id if isinstance(one.func, ast.Name) else one.func.attr

    def reached(self):
        """All that operators, properties, __eq__, __str__ and __len__ run, the errors' own __init__ aside."""
        own = self.own()
        waiting = []
        for stem, node in nodes(ast.ClassDef):
            for one in node.body:
                if isinstance(one, ast.FunctionDef) and stem != "errors":
                    is_property = any(isinstance(mark, ast.Name) and mark.id == "property" for mark in one.decorator_list)
                    operator = one.name.startswith("__") and one.name not in ("__init__", "__call__", "__iter__")
                    if is_property or operator:
                        waiting.append((stem, one))
        found = []
        while waiting:
            stem, node = waiting.pop()
            if (stem, node) not in found and stem != "errors":
                found.append((stem, node))
                for name in self.called(node):
                    waiting.extend(own.get(name, []))
        return found

    def test_much_is_reached(self):
        names = {node.name for _, node in self.reached()}
        self.assertLessEqual({"tightened", "left_over", "steps_of", "replaced", "edit_lines", "needed_limits"}, names)

    def test_nothing_that_is_passed_is_called(self):
        for stem, node in self.reached():
            for one in ast.walk(node):
                if isinstance(one, ast.Call) and isinstance(one.func, ast.Name):
                    self.assertNotIn(one.func.id, bound_names(node), f"{stem}.{node.name}")
                self.assertNotIsInstance(one, (ast.Yield, ast.Lambda), f"{stem}.{node.name}")

    def test_only_own_lists_and_dicts_are_changed(self):
        changing = set("append clear extend insert pop remove reverse setdefault update".split())
        for stem, node in self.reached():
            made = self.made_in(node)
            for one in ast.walk(node):
                place = None
                if isinstance(one, ast.Call) and isinstance(one.func, ast.Attribute) and one.func.attr in changing:
                    place = one.func.value
                if isinstance(one, ast.Subscript) and not isinstance(one.ctx, ast.Load):
                    place = one.value
                if place is not None:
                    self.assertTrue(isinstance(place, ast.Name) and place.id in made, f"{stem}.{node.name}:{one.lineno}")

    def made_in(self, node):
        """The local variables that are only ever assigned new lists and dicts."""
        made, other = set(), set(parameters(node))
        for one in ast.walk(node):
            if isinstance(one, ast.Assign):
                for target in one.targets:
                    if isinstance(target, ast.Name):
                        fresh = isinstance(one.value, (ast.List, ast.Dict, ast.ListComp, ast.DictComp)) or (
                            isinstance(one.value, ast.Call) and isinstance(one.value.func, ast.Name)
                            and one.value.func.id in ("list", "dict", "sorted"))
                        (made if fresh else other).add(target.id)
            if isinstance(one, (ast.For, ast.comprehension)):
                other |= {name.id for name in ast.walk(one.target) if isinstance(name, ast.Name)}
        return made - other

    def test_attributes_are_assigned_to_new_objects_alone(self):
        classes = {node.name for _, node in nodes(ast.ClassDef)}
        for stem, node in self.reached():
            new = {one.targets[0].id for one in ast.walk(node)
                   if isinstance(one, ast.Assign) and isinstance(one.targets[0], ast.Name)
                   and isinstance(one.value, ast.Call) and isinstance(one.value.func, ast.Name)
                   and one.value.func.id in classes}
            for one in ast.walk(node):
                if isinstance(one, ast.Attribute) and isinstance(one.ctx, ast.Store):
                    kept = one.attr.startswith("_") and node.decorator_list
                    fresh = node.name == "__init__" and one.value.id == "self" or one.value.id in new
                    self.assertTrue(kept or fresh, f"{stem}.{node.name}:{one.lineno}")


class Texts(unittest.TestCase):
    def test_strings(self):
        quiet = docstrings()
        for stem, node in nodes(ast.Constant):
            if isinstance(node.value, str):
                if id(node) not in quiet:
                    self.assertNotIn("%", node.value, stem)
                self.assertFalse(node.value.endswith(("._", ".__")))
                self.assertIsNone(re.fullmatch(r"__.*__", node.value, re.DOTALL))
                self.assertIsNone(FRAMES.fullmatch(node.value))
                if "{" in node.value or "}" in node.value or ("." in node.value and " " not in node.value):
                    self.assertNotRegex(node.value, r"\b__")

    def test_escapes(self):
        for stem in FILES:
            for token in tokens_of(stem):
                if token.type == tokenize.STRING:
                    self.assertLessEqual(set(re.findall(r"\\(.)", token.string, re.DOTALL)), set("nt\\'\""), stem)

    def test_numbers_and_exponents(self):
        for stem, node in nodes((ast.Constant, ast.BinOp)):
            if isinstance(node, ast.BinOp) and isinstance(node.op, ast.Pow):
                self.assertIsInstance(node.right, ast.Constant, stem)
            elif isinstance(node, ast.Constant) and isinstance(node.value, int):
                self.assertLess(abs(node.value), 10 ** 900)


class Interface(unittest.TestCase):
    CLASSES = {
        "sheets": {"Sheet": """chain with_fact without measured tight within read least __getitem__ __contains__
                   __and__ __eq__ __ne__ __str__ __init__""".split()},
        "families": {"Family": """least hull near within __or__ __and__ __sub__ __contains__ __eq__ __ne__ __bool__
                     __init__""".split()},
        "programs": {"Program": """swapped with_amount read __call__ __getitem__ __add__ __sub__ __eq__ __ne__ __len__
                     __str__ __init__""".split()},
        "findings": {"Finding": "state least_bad least_good __bool__ __init__".split()},
        "sums": {"Sum": ["__init__"]},
        "tables": {"Table": """take mark know measure edit start go watch state_of branch_program differ sound story undo
                   twin sheet program branch branches __init__""".split(), "StrictTable": ["edit", "twin"]},
    }
    PARAMETERS = {
        ("sheets", "Sheet", "__init__"): "self marks takes facts", ("sheets", "Sheet", "chain"): "self x y",
        ("sheets", "Sheet", "with_fact"): "self x y c", ("sheets", "Sheet", "without"): "self index",
        ("sheets", "Sheet", "measured"): "self mark number", ("sheets", "Sheet", "tight"): "self",
        ("sheets", "Sheet", "within"): "self other", ("sheets", "Sheet", "read"): "text",
        ("families", "Family", "__init__"): "self sheets", ("families", "Family", "near"): "self numbers fixed",
        ("families", "Family", "within"): "self other",
        ("programs", "Program", "__init__"): "self tracks edits", ("programs", "Program", "swapped"): "self step",
        ("programs", "Program", "with_amount"): "self step which amount", ("programs", "Program", "read"): "text",
        ("programs", "Program", "__call__"): "self sheet numbers",
        ("playing", None, "standing"): "sheet program numbers", ("playing", None, "played"): "sheet program numbers",
        ("playing", None, "cue_sheet"): "program outcome",
        ("findings", "Finding", "__init__"): "self bad good", ("findings", None, "shapes"): "sheet program",
        ("findings", None, "ends"): "sheet program shape", ("findings", None, "ask"): "sheet program faults",
        ("findings", None, "times"): "sheet program take P Q",
        ("sums", "Sum", "__init__"): "self lowest highest lowest_at highest_at",
        ("sums", None, "span"): "sheet plus minus", ("sums", None, "pairs_bound"): "sheet plus minus pairs",
        ("sums", None, "gap"): "sheet program p q", ("sums", None, "lag"): "sheet program one two P Q",
        ("compared", None, "compare"): "sheet first second further",
        ("compared", None, "telling_edit"): "sheet first second numbers",
        ("compared", None, "clash"): "sheet base first second", ("compared", None, "thin"): "sheet program",
        ("compared", None, "hangs"): "sheet program mark further", ("compared", None, "told"): "sheet program mark",
        ("compared", None, "sounding"): "sheet program tracks",
        ("mends", None, "loosest"): "finding x y", ("mends", None, "needed"): "sheet program faults",
        ("mends", None, "gentle"): "finding", ("mends", None, "with_asks"): "program facts",
        ("mends", None, "safe_amounts"): "sheet program step which faults",
        ("mends", None, "settles"): "finding marks", ("mends", None, "fewest"): "finding",
        ("trees", None, "follow"): "sheet tree numbers", ("trees", None, "outcome_tree"): "sheet program",
        ("trees", None, "verdict_tree"): "sheet program faults",
        ("trees", None, "is_outcome_tree"): "sheet program tree",
        ("trees", None, "is_verdict_tree"): "sheet program tree faults",
        ("tables", None, "retell"): "table story", ("tables", None, "tried"): "table story",
        ("tables", "Table", "__init__"): "self tracks", ("tables", "Table", "take"): "self name",
        ("tables", "Table", "mark"): "self name", ("tables", "Table", "know"): "self x y c",
        ("tables", "Table", "measure"): "self mark number", ("tables", "Table", "edit"): "self edit",
        ("tables", "StrictTable", "edit"): "self edit", ("tables", "Table", "start"): "self name",
        ("tables", "Table", "go"): "self name", ("tables", "Table", "watch"): "self name faults",
        ("tables", "Table", "state_of"): "self name", ("tables", "Table", "branch_program"): "self name",
        ("tables", "Table", "differ"): "self one two further",
    }

    def test_each_stands_in_its_file_and_class(self):
        for stem, classes in self.CLASSES.items():
            found = {node.name: node for node in TREES[stem].body if isinstance(node, ast.ClassDef)}
            for name, methods in classes.items():
                own = {node.name for node in found[name].body if isinstance(node, ast.FunctionDef)}
                self.assertLessEqual(set(methods), own)

    def test_parameters(self):
        found = {}
        for stem, tree in TREES.items():
            for node in tree.body:
                if isinstance(node, ast.FunctionDef):
                    found[stem, None, node.name] = parameters(node)
                if isinstance(node, ast.ClassDef):
                    for one in node.body:
                        if isinstance(one, ast.FunctionDef):
                            found[stem, node.name, one.name] = parameters(one)
        for place, names in self.PARAMETERS.items():
            self.assertEqual(found[place], names.split(), place)


if __name__ == "__main__":
    unittest.main()
