"""The rules of the language that the package is written in, as far as a test can see them."""

import ast
import builtins
import os
import re
import unittest

HERE = os.path.dirname(os.path.abspath(__file__))
PACKAGE = os.path.join(os.path.dirname(HERE), "chancepoints")

LIBRARY = {
    "math": {"gcd", "lcm", "isqrt", "comb", "perm", "factorial"},
    "itertools": {"accumulate", "chain", "pairwise"},
    "collections": {"deque"},
}
BUILTINS = set(
    "len range enumerate zip min max sum abs sorted reversed int str bool bytes list tuple dict set"
    " frozenset isinstance ord repr any all divmod ValueError".split()
)
METHODS = set(
    "append clear copy count endswith extend find get index insert isalnum isalpha isdigit islower"
    " isspace isupper items join keys ljust lower lstrip partition pop remove replace reverse rfind"
    " rjust rpartition rsplit rstrip setdefault split splitlines startswith strip update upper"
    " values zfill bit_length".split()
)
BARRED = set(
    "register mro elements open input law version_info with_traceback add_note attrgetter breakpoint"
    " builtins compile copyright credits delattr dir eval exec exit gc getattr globals hasattr help"
    " id importlib license locals methodcaller os quit setattr super type vars sys".split()
)
BARRED_HEADS = ("_wall", "_pe_", "_dcw_", "_enum_", "_cm_", "_twin_re_", "_lay_", "_law_", "_stub_", "_sre", "_WallAttr")
BARRED_WHOLE = ("_cold", "_tuplegetter", "_outside", "_record", "_written_out", "_member_names")
ONCE = {"zip", "enumerate", "reversed", "range"}
ITERATING = {"list", "tuple", "dict", "sorted", "sum", "any", "all", "enumerate", "zip", "min", "max"}
STATEMENTS = (
    ast.Assign, ast.AugAssign, ast.If, ast.While, ast.For, ast.Return, ast.Break, ast.Continue,
    ast.Pass, ast.Raise, ast.Expr, ast.Try, ast.FunctionDef,
)


def files():
    return sorted(os.listdir(PACKAGE))


def read(file):
    with open(os.path.join(PACKAGE, file), "rb") as stream:
        return stream.read()


def tree(file):
    return ast.parse(read(file).decode("ascii"))


def sources():
    return [file for file in files() if file.endswith(".py")]


def top_names(file):
    """The names of the functions and classes, and those of the values, of a file."""
    made, values = set(), set()
    for node in tree(file).body:
        if isinstance(node, (ast.FunctionDef, ast.ClassDef)):
            made.add(node.name)
        elif isinstance(node, ast.Assign):
            values.add(node.targets[0].id)
    return made, values


def imports(file):
    return [node for node in tree(file).body if isinstance(node, ast.ImportFrom)]


def functions(file):
    return [node for node in ast.walk(tree(file)) if isinstance(node, ast.FunctionDef)]


def is_doc(node):
    return isinstance(node, ast.Expr) and isinstance(node.value, ast.Constant) and isinstance(node.value.value, str)


def parents(root):
    found = {}
    for node in ast.walk(root):
        for inner in ast.iter_child_nodes(node):
            found[inner] = node
    return found


class Files(unittest.TestCase):
    def test_only_plain_python_files(self):
        for file in files():
            if file != "__pycache__":
                self.assertTrue(re.fullmatch(r"[a-z0-9_]+\.py", file), file)
        self.assertLessEqual(len(sources()), 100)

    def test_characters_lines_and_length(self):
        for file in sources():
            data = read(file)
            self.assertTrue(all(sign == 10 or 32 <= sign <= 126 for sign in data), file)
            rows = data.decode("ascii").split("\n")
            self.assertLessEqual(len(rows), 400, file)
            for row in rows:
                self.assertLessEqual(len(row), 120, (file, row))

    def test_functions_have_forty_lines_at_most(self):
        for file in sources():
            for node in functions(file):
                self.assertLessEqual(node.end_lineno - node.lineno + 1, 40, (file, node.name))


class Modules(unittest.TestCase):
    def test_what_stands_at_module_level(self):
        for file in sources():
            for at, node in enumerate(tree(file).body):
                if at == 0:
                    self.assertTrue(is_doc(node), file)
                elif isinstance(node, ast.Assign):
                    self.assertEqual(1, len(node.targets))
                    self.assertIsInstance(node.targets[0], ast.Name)
                else:
                    self.assertIsInstance(node, (ast.ImportFrom, ast.FunctionDef, ast.ClassDef))

    def test_values_at_module_level_are_written_out(self):
        for file in sources():
            made = top_names(file)[0]
            for node in tree(file).body:
                if isinstance(node, ast.Assign):
                    for inner in ast.walk(node.value):
                        self.assertIsInstance(inner, (ast.Constant, ast.Tuple, ast.Dict, ast.Name, ast.Load), (file, node.lineno))
                        if isinstance(inner, ast.Name):
                            self.assertIn(inner.id, made, (file, node.lineno))

    def test_imports_name_the_file_that_defines(self):
        for file in sources():
            for node in imports(file):
                self.assertEqual(0, node.level)
                for alias in node.names:
                    self.assertIsNone(alias.asname)
                    if node.module in LIBRARY:
                        self.assertIn(alias.name, LIBRARY[node.module])
                        continue
                    package, module = node.module.split(".")
                    self.assertEqual("chancepoints", package)
                    made, values = top_names(module + ".py")
                    self.assertIn(alias.name, made | values, (file, alias.name))

    def test_no_import_is_idle(self):
        for file in sources():
            used = {node.id for node in ast.walk(tree(file)) if isinstance(node, ast.Name)}
            for node in imports(file):
                for alias in node.names:
                    self.assertIn(alias.name, used, (file, alias.name))

    def test_no_two_files_import_from_each_other(self):
        ahead = {}
        for file in sources():
            inner = [node.module for node in imports(file) if node.module not in LIBRARY]
            ahead[file[:-3]] = {module.split(".")[1] for module in inner}
        while ahead:
            free = [module for module in ahead if not ahead[module] & set(ahead)]
            self.assertTrue(free, ahead)
            for module in free:
                del ahead[module]


class Names(unittest.TestCase):
    def bound(self, file):
        """All names that are bound in functions: parameters and targets."""
        found = []
        for node in ast.walk(tree(file)):
            if isinstance(node, ast.arg):
                found.append(node.arg)
            if isinstance(node, ast.Name) and isinstance(node.ctx, ast.Store):
                found.append(node.id)
        return found

    def test_no_local_name_is_an_import_a_class_or_a_builtin(self):
        for file in sources():
            barred = {alias.name for node in imports(file) for alias in node.names}
            barred |= {node.name for node in tree(file).body if isinstance(node, ast.ClassDef)}
            for word in self.bound(file):
                self.assertNotIn(word, barred, file)
                self.assertNotIn(word, dir(builtins), file)
                self.assertNotIn(word, BARRED, file)

    def test_what_is_defined_has_no_barred_name(self):
        for file in sources():
            for node in ast.walk(tree(file)):
                if isinstance(node, (ast.FunctionDef, ast.ClassDef)):
                    self.assertNotIn(node.name, BARRED)
                    self.assertNotIn(node.name, dir(builtins))
                    if node.name.startswith("__"):
                        self.assertIn(node.name, ("__init__", "__eq__", "__len__"))

    def test_names_are_bound_once_at_module_level(self):
        for file in sources():
            found = [alias.name for node in imports(file) for alias in node.names]
            for node in tree(file).body:
                if isinstance(node, (ast.FunctionDef, ast.ClassDef)):
                    found.append(node.name)
                elif isinstance(node, ast.Assign):
                    found.append(node.targets[0].id)
            self.assertEqual(len(found), len(set(found)), file)

    def test_builtins_are_those_that_are_let(self):
        for file in sources():
            own = {alias.name for node in imports(file) for alias in node.names}
            made, values = top_names(file)
            known = own | made | values | set(self.bound(file)) | BUILTINS
            for node in ast.walk(tree(file)):
                if isinstance(node, ast.Name):
                    self.assertIn(node.id, known, file)

    def test_methods_are_own_or_let(self):
        own = set()
        for file in sources():
            for node in ast.walk(tree(file)):
                if isinstance(node, ast.ClassDef):
                    own |= {inner.name for inner in node.body if isinstance(inner, ast.FunctionDef)}
        for file in sources():
            for node in ast.walk(tree(file)):
                if isinstance(node, ast.Call) and isinstance(node.func, ast.Attribute):
                    self.assertIn(node.func.attr, METHODS | own, file)
                    if node.func.attr not in own:
                        self.assertEqual([], node.keywords, file)

    def test_attributes_are_assigned_and_are_no_methods(self):
        methods, stored, loaded = set(), set(), set()
        for file in sources():
            root = tree(file)
            above = parents(root)
            for node in ast.walk(root):
                if isinstance(node, ast.ClassDef):
                    methods |= {inner.name for inner in node.body if isinstance(inner, ast.FunctionDef)}
                if isinstance(node, ast.Attribute) and isinstance(node.ctx, ast.Store):
                    stored.add(node.attr)
                elif isinstance(node, ast.Attribute):
                    called = isinstance(above[node], ast.Call) and above[node].func is node
                    if not called:
                        loaded.add(node.attr)
        self.assertEqual(set(), stored & methods)
        self.assertEqual(set(), loaded - stored)
        self.assertEqual(set(), stored & METHODS)


def names_of(root):
    """All names in a tree, and those of attributes and methods among them."""
    found, members = set(), set()
    for node in ast.walk(root):
        if isinstance(node, ast.Name):
            found.add(node.id)
        elif isinstance(node, ast.arg):
            found.add(node.arg)
        elif isinstance(node, ast.keyword) and node.arg:
            found.add(node.arg)
        elif isinstance(node, ast.alias):
            found |= {node.name, node.asname or node.name}
        elif isinstance(node, ast.ExceptHandler) and node.name:
            found.add(node.name)
        elif isinstance(node, ast.Attribute):
            members.add(node.attr)
        elif isinstance(node, ast.ClassDef):
            found.add(node.name)
            members |= {inner.name for inner in node.body if isinstance(inner, ast.FunctionDef)}
    methods = [inner for node in ast.walk(root) if isinstance(node, ast.ClassDef) for inner in node.body]
    for node in ast.walk(root):
        if isinstance(node, ast.FunctionDef) and node not in methods:
            found.add(node.name)
    return found | members, members - found


def is_plain(word, is_member=False):
    """Whether rule L12 lets a name stand."""
    if word in ("_", "__init__", "__eq__", "__len__"):
        return True
    heads = [head for head in BARRED_HEADS if head != "_wall" or not is_member]
    if any(word.startswith(head) for head in heads):
        return False
    if word.rstrip("_0123456789") in BARRED_WHOLE:
        return False
    return re.fullmatch(r"_?[A-Za-z][A-Za-z0-9_]*", word) is not None


class PlainNames(unittest.TestCase):
    def test_each_name_of_the_package_is_plain(self):
        for file in sources():
            every, members = names_of(tree(file))
            for word in every:
                self.assertTrue(is_plain(word, word in members), (file, word))

    def test_classes_begin_with_a_letter(self):
        for file in sources():
            for node in ast.walk(tree(file)):
                if isinstance(node, ast.ClassDef):
                    self.assertTrue(node.name[0].isalpha(), (file, node.name))

    def test_the_wall_stands_nowhere(self):
        for file in sources():
            text = read(file).decode("ascii")
            self.assertIsNone(re.search(r"\b_wall\b|\b_WallAttr\b", text), file)

    def test_what_stands_alone_is_not_read(self):
        for file in sources():
            for node in ast.walk(tree(file)):
                if isinstance(node, ast.Name) and node.id == "_":
                    self.assertIsInstance(node.ctx, ast.Store, file)

    def test_what_the_rule_forbids_is_refused(self):
        for word in BARRED_HEADS + BARRED_WHOLE:
            for tail in ("", "_", "1", "_1", "__2_"):
                self.assertFalse(is_plain(word + tail), word + tail)
        for head in BARRED_HEADS:
            self.assertFalse(is_plain(head + "call"))
            self.assertEqual(head == "_wall", is_plain(head + "s", True))
        for word in ("_lay", "_layer", "_law", "_stubs", "_records", "_colder", "_cm", "lay_call", "_x", "x1", "_a_b"):
            self.assertTrue(is_plain(word), word)
        for word in ("__x", "__x__", "_1", "1x", "_"*2, "x\u00e9"):
            self.assertFalse(is_plain(word), word)

    def test_names_of_every_place_are_found(self):
        text = """
from a import _lay_import
def _lay_function(_lay_parameter, *, _lay_keyword=1):
    _lay_local = f(_lay_named=2)
    for _lay_loop in [_lay_member for _lay_member in x._lay_attribute]:
        lambda _lay_lambda: 1
class _lay_Class:
    def _lay_method(self):
        def _lay_inner(): return 1
"""
        every, members = names_of(ast.parse(text))
        words = "import function parameter keyword local named loop member attribute lambda Class method inner"
        for word in words.split():
            self.assertIn("_lay_" + word, every)
        self.assertEqual({"_lay_attribute", "_lay_method"}, members)


class Code(unittest.TestCase):
    def nodes(self):
        for file in sources():
            root = tree(file)
            above = parents(root)
            for node in ast.walk(root):
                yield file, node, above

    def test_statements(self):
        for file in sources():
            for function in functions(file):
                self.assertEqual([], function.decorator_list)
                self.assertIsNone(function.returns)
                for node in ast.walk(function):
                    if isinstance(node, ast.stmt):
                        self.assertIsInstance(node, STATEMENTS, (file, node.lineno))
                    if isinstance(node, ast.arg):
                        self.assertIsNone(node.annotation)

    def test_values(self):
        for file, node, above in self.nodes():
            where = (file, getattr(node, "lineno", None))
            if isinstance(node, ast.Constant):
                self.assertNotIsInstance(node.value, (float, complex, bytes), where)
                if isinstance(node.value, str) and not is_doc(above[node]):
                    self.assertNotIn("%", node.value, where)
            self.assertNotIsInstance(node, (ast.Div, ast.MatMult), where)
            if isinstance(node, ast.BinOp) and isinstance(node.op, ast.Pow):
                self.assertIsInstance(node.right, ast.Constant, where)
                self.assertIn(node.right.value, range(65), where)
            self.assertNotIsInstance(node, (ast.GeneratorExp, ast.NamedExpr, ast.Set, ast.Await), where)
            self.assertNotIsInstance(node, (ast.Yield, ast.YieldFrom, ast.Global, ast.Delete), where)

    def test_is_stands_beside_none_true_and_false(self):
        for file, node, _ in self.nodes():
            if isinstance(node, ast.Compare):
                for sign, right in zip(node.ops, node.comparators):
                    if isinstance(sign, (ast.Is, ast.IsNot)):
                        self.assertIsInstance(right, ast.Constant, (file, node.lineno))

    def test_lambdas_are_keys_that_take_an_item(self):
        for file, node, above in self.nodes():
            if isinstance(node, ast.Lambda):
                self.assertEqual("key", above[node].arg)
                self.assertIsInstance(node.body, ast.Subscript)
                self.assertIsInstance(node.body.slice, ast.Constant)

    def test_sets_stand_in_sorted(self):
        for file, node, above in self.nodes():
            made = isinstance(node, ast.Call) and isinstance(node.func, ast.Name) and node.func.id == "set"
            if made or isinstance(node, ast.SetComp):
                upper = above[node]
                while isinstance(upper, ast.BinOp):
                    upper = above[upper]
                self.assertEqual("sorted", upper.func.id, file)

    def test_what_is_iterated_at_once(self):
        for file, node, above in self.nodes():
            if not isinstance(node, ast.Call):
                continue
            plain = isinstance(node.func, ast.Name) and node.func.id in ONCE
            view = isinstance(node.func, ast.Attribute) and node.func.attr in ("items", "keys", "values")
            if plain or view:
                upper = above[node]
                if isinstance(upper, ast.Call):
                    self.assertIn(upper.func.id, ITERATING, (file, node.lineno))
                else:
                    self.assertIsInstance(upper, (ast.For, ast.comprehension), (file, node.lineno))

    def test_keywords_of_builtins(self):
        let = {"sorted": {"key", "reverse"}, "min": {"key", "default"}, "max": {"key", "default"}}
        for file, node, _ in self.nodes():
            if isinstance(node, ast.Call) and isinstance(node.func, ast.Name) and node.func.id in BUILTINS:
                words = {keyword.arg for keyword in node.keywords}
                self.assertLessEqual(words, let.get(node.func.id, set()), (file, node.lineno))

    def test_raise_makes_an_own_error_on_the_spot(self):
        made = top_names("errors.py")[0]
        for file, node, _ in self.nodes():
            if isinstance(node, ast.Raise):
                self.assertIsInstance(node.exc, ast.Call, (file, node.lineno))
                self.assertIn(node.exc.func.id, made)
                self.assertIsNone(node.cause)

    def test_what_a_loop_goes_over_is_not_changed_in_it(self):
        changing = {"append", "clear", "extend", "insert", "pop", "remove", "reverse", "setdefault", "update"}
        for file, node, _ in self.nodes():
            if not isinstance(node, ast.For):
                continue
            over = {inner.id for inner in ast.walk(node.iter) if isinstance(inner, ast.Name)}
            for inner in ast.walk(node):
                if isinstance(inner, ast.Call) and isinstance(inner.func, ast.Attribute):
                    if inner.func.attr in changing and isinstance(inner.func.value, ast.Name):
                        self.assertNotIn(inner.func.value.id, over, (file, node.lineno))

    def test_defaults_are_plain(self):
        for file in sources():
            for function in functions(file):
                for value in function.args.defaults + function.args.kw_defaults:
                    ast.literal_eval(value)


if __name__ == "__main__":
    unittest.main()
