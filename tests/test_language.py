"""The package's files keep to the small part of Python that the program is written in, as far as can be seen."""

import ast
import builtins
import os
import re
import unittest

import sceneturns

FOLDER = os.path.dirname(sceneturns.__file__)

STATEMENTS = (ast.Assign, ast.AugAssign, ast.If, ast.While, ast.For, ast.Return, ast.Break, ast.Continue, ast.Pass,
              ast.Raise, ast.Try, ast.Expr, ast.FunctionDef, ast.ClassDef, ast.ImportFrom)
EXPRESSIONS = (ast.Constant, ast.List, ast.Tuple, ast.Dict, ast.BinOp, ast.UnaryOp, ast.BoolOp, ast.Compare, ast.IfExp,
               ast.Call, ast.Attribute, ast.Subscript, ast.Slice, ast.ListComp, ast.Name, ast.Lambda)
OWN_NAMES = set("""len range enumerate zip min max sum abs sorted reversed int str bool list tuple dict set frozenset
isinstance ord repr any all divmod Exception ValueError TypeError KeyError IndexError LookupError ZeroDivisionError
ArithmeticError OverflowError RuntimeError NotImplementedError AttributeError StopIteration""".split())
METHODS = set("""append clear copy count endswith extend find get index insert isalnum isalpha isdigit islower isspace
isupper items join keys ljust lower lstrip partition pop remove replace reverse rfind rjust rpartition rsplit rstrip
setdefault split splitlines startswith strip update upper values zfill bit_length""".split())
WALKED = {"zip", "enumerate", "reversed", "range"}
VIEWS = {"items", "keys", "values"}
TAKEN = {name for value in ("", 0, [], {}, set(), (), b"") for name in dir(value)}
UNUSED = set("""register mro elements open input version_info with_traceback add_note attrgetter breakpoint builtins
compile copyright credits delattr dir eval exec exit gc getattr globals hasattr help id importlib license locals
methodcaller os quit setattr super type vars sys""".split())
WORDS = re.compile(r"\b(type|typing|typing_extensions|enum|Enum|IntEnum|StrEnum|Flag|IntFlag|Generic|Protocol|ABC|"
                   r"ABCMeta|namedtuple|NamedTuple|TypedDict|TYPE_CHECKING|abstractmethod)\b"
                   r"|dataclass|overload|contextmanager")
PLAIN_NAME = re.compile(r"[A-Za-z][A-Za-z0-9_]*\Z")


def sources():
    for name in sorted(os.listdir(FOLDER)):
        if name != "__pycache__":
            with open(os.path.join(FOLDER, name), encoding="utf-8", newline="") as file:
                yield name, file.read()


def trees():
    for name, text in sources():
        yield name, ast.parse(text)


def walk_all():
    for name, whole in trees():
        for node in ast.walk(whole):
            yield f"{name}:{getattr(node, 'lineno', 0)}", node


def bound_names(whole):
    for node in ast.walk(whole):
        if isinstance(node, ast.Name) and isinstance(node.ctx, ast.Store):
            yield node.id, node.lineno
        elif isinstance(node, (ast.FunctionDef, ast.ClassDef)):
            yield node.name, node.lineno
        elif isinstance(node, ast.arg):
            yield node.arg, node.lineno
        elif isinstance(node, ast.Attribute):
            yield node.attr, node.lineno


class Files(unittest.TestCase):
    def test_names_and_signs(self):
        for name, text in sources():
            self.assertRegex(name, r"\A(__init__|[a-z][a-z0-9_]*)\.py\Z")
            self.assertNotIn(name[:-3], dir(builtins))
            self.assertRegex(text, r"\A[ -~\n]*\Z", name)
            self.assertIsNone(WORDS.search(text), name)

    def test_sizes(self):
        for name, text in sources():
            self.assertLessEqual(len(text.splitlines()), 400, name)
            for line in text.splitlines():
                self.assertLessEqual(len(line), 120, (name, line))
        for where, node in walk_all():
            if isinstance(node, ast.FunctionDef):
                self.assertLessEqual(node.end_lineno - node.lineno + 1, 40, where)

    def test_the_top_of_a_file(self):
        for name, whole in trees():
            bound = []
            for k, node in enumerate(whole.body):
                if isinstance(node, ast.Expr):
                    self.assertTrue(k == 0 and isinstance(node.value, ast.Constant), (name, node.lineno))
                elif isinstance(node, ast.ImportFrom):
                    bound += [each.name for each in node.names]
                elif isinstance(node, ast.Assign):
                    bound += [node.targets[0].id]
                    ast.literal_eval(node.value)
                else:
                    self.assertIsInstance(node, (ast.FunctionDef, ast.ClassDef), (name, node.lineno))
                    bound += [node.name]
            self.assertEqual(len(bound), len(set(bound)), name)

    def test_imports(self):
        drawn = {}
        for name, whole in trees():
            drawn[name[:-3]] = set()
            for node in ast.walk(whole):
                self.assertNotIsInstance(node, ast.Import)
                if isinstance(node, ast.ImportFrom):
                    self.assertEqual(node.level, 0)
                    self.assertRegex(node.module, r"\Asceneturns\.[a-z]+\Z")
                    self.assertTrue(all(each.name != "*" and each.asname is None for each in node.names))
                    drawn[name[:-3]].add(node.module.split(".")[1])
                    self.assert_defines(node)
        self.assertEqual(drawn["__init__"], set())
        while drawn:
            free = [name for name in drawn if not drawn[name] & set(drawn)]
            self.assertTrue(free, f"these draw from one another: {sorted(drawn)}")
            for name in free:
                drawn.pop(name)

    def assert_defines(self, node):
        whole = dict(trees())[node.module.split(".")[1] + ".py"]
        defined = set()
        for each in whole.body:
            if isinstance(each, (ast.FunctionDef, ast.ClassDef)):
                defined.add(each.name)
            elif isinstance(each, ast.Assign):
                defined.add(each.targets[0].id)
        self.assertLessEqual({each.name for each in node.names}, defined)


class Forms(unittest.TestCase):
    def test_only_plain_statements_and_expressions(self):
        for where, node in walk_all():
            if isinstance(node, ast.stmt):
                self.assertIsInstance(node, STATEMENTS, where)
            if isinstance(node, ast.expr):
                self.assertIsInstance(node, EXPRESSIONS, where)
            if isinstance(node, (ast.For, ast.While)):
                self.assertEqual(node.orelse, [], where)
            if isinstance(node, ast.Assign):
                self.assertEqual(len(node.targets), 1, where)
            if isinstance(node, ast.ListComp):
                self.assertEqual(len(node.generators), 1, where)
                self.assertLessEqual(len(node.generators[0].ifs), 1, where)
            if isinstance(node, ast.BinOp):
                self.assertNotIsInstance(node.op, (ast.Div, ast.MatMult, ast.Pow), where)
            if isinstance(node, ast.Constant):
                self.assertNotIsInstance(node.value, (float, bytes, complex), where)

    def test_a_call_stands_by_itself_and_no_other_expression(self):
        for name, whole in trees():
            for node in ast.walk(whole):
                if isinstance(node, ast.Expr) and node is not whole.body[0]:
                    self.assertIsInstance(node.value, ast.Call, (name, node.lineno))

    def test_functions(self):
        for where, node in walk_all():
            if isinstance(node, ast.arguments):
                self.assertEqual((node.posonlyargs, node.kwonlyargs, node.vararg, node.kwarg), ([], [], None, None))
            if isinstance(node, ast.arg):
                self.assertIsNone(node.annotation, where)
            if isinstance(node, ast.FunctionDef):
                self.assertEqual((node.decorator_list, node.returns), ([], None), where)

    def test_is_beside_none_true_and_false_alone(self):
        for where, node in walk_all():
            if isinstance(node, ast.Compare):
                for op, right in zip(node.ops, node.comparators):
                    if isinstance(op, (ast.Is, ast.IsNot)):
                        self.assertTrue(isinstance(right, ast.Constant) and right.value in (None, True, False), where)

    def test_walked_at_once(self):
        fit = {"list", "tuple", "dict", "sorted", "sum", "any", "all", "enumerate", "zip", "min", "max"}
        for name, whole in trees():
            around = {id(child): node for node in ast.walk(whole) for child in ast.iter_child_nodes(node)}
            for node in ast.walk(whole):
                if isinstance(node, ast.Call) and (
                        isinstance(node.func, ast.Name) and node.func.id in WALKED
                        or isinstance(node.func, ast.Attribute) and node.func.attr in VIEWS):
                    outer = around[id(node)]
                    walked = isinstance(outer, (ast.For, ast.comprehension)) and outer.iter is node
                    within = isinstance(outer, ast.Call) and isinstance(outer.func, ast.Name) and outer.func.id in fit
                    self.assertTrue(walked or within and outer.args[0] is node, (name, node.lineno))

    def test_no_keywords_and_no_sets(self):
        for where, node in walk_all():
            if isinstance(node, ast.Call):
                self.assertEqual(node.keywords, [], where)
                self.assertFalse(isinstance(node.func, ast.Name) and node.func.id in ("set", "frozenset"), where)


class Names(unittest.TestCase):
    def test_plain_and_not_pythons_own(self):
        for name, whole in trees():
            for bound, line in bound_names(whole):
                if bound != "__init__":
                    self.assertRegex(bound, PLAIN_NAME, (name, line))
                self.assertNotIn(bound, UNUSED, (name, line))
            for node in ast.walk(whole):
                if isinstance(node, (ast.Name, ast.arg)):
                    bound = node.id if isinstance(node, ast.Name) else node.arg
                    free = isinstance(node, ast.Name) and isinstance(node.ctx, ast.Load) and bound in OWN_NAMES
                    self.assertTrue(free or bound not in dir(builtins), (name, node.lineno, bound))

    def test_no_local_is_called_like_a_class_or_an_import(self):
        for name, whole in trees():
            tops = set()
            for node in whole.body:
                if isinstance(node, ast.ClassDef):
                    tops.add(node.name)
                elif isinstance(node, ast.ImportFrom):
                    tops |= {each.name for each in node.names}
            for node in ast.walk(whole):
                if isinstance(node, ast.arg):
                    self.assertNotIn(node.arg, tops, (name, node.lineno))
                if isinstance(node, ast.Name) and isinstance(node.ctx, ast.Store):
                    self.assertNotIn(node.id, tops, (name, node.lineno))

    def test_methods_and_values_of_objects(self):
        own_methods, own_values, used = set(), set(), {}
        for where, node in walk_all():
            if isinstance(node, ast.ClassDef):
                self.assertLessEqual(len(node.bases), 1, where)
                self.assertTrue(all(isinstance(each, ast.FunctionDef) for each in node.body), where)
                names = [each.name for each in node.body]
                self.assertEqual(len(names), len(set(names)), where)
                own_methods |= set(names)
            elif isinstance(node, ast.Attribute):
                used[node.attr] = where
                if isinstance(node.ctx, ast.Store):
                    own_values.add(node.attr)
        self.assertEqual(own_methods & own_values, set())
        self.assertEqual((own_methods - {"__init__"} | own_values) & TAKEN, set())
        for attr, where in used.items():
            self.assertIn(attr, own_methods | own_values | METHODS, where)

    def test_lists_and_dicts_of_a_files_top_are_only_read(self):
        for name, whole in trees():
            kept = {node.targets[0].id for node in whole.body
                    if isinstance(node, ast.Assign) and isinstance(node.value, (ast.List, ast.Dict))}
            around = {id(child): node for node in ast.walk(whole) for child in ast.iter_child_nodes(node)}
            for node in ast.walk(whole):
                if isinstance(node, ast.Name) and node.id in kept and isinstance(node.ctx, ast.Load):
                    outer = around[id(node)]
                    self.assertTrue(isinstance(outer, ast.Subscript) and isinstance(outer.ctx, ast.Load)
                                    or isinstance(outer, (ast.Compare, ast.For)), (name, node.lineno))


if __name__ == "__main__":
    unittest.main()
