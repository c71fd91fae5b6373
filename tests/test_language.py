"""The form of the code, as far as it can be seen by simple means."""

import ast
import builtins
import os
import re
import unittest

FOLDER = os.path.join(os.path.dirname(os.path.dirname(os.path.abspath(__file__))), "wholewalks")
INTERFACE = {
    "errors": ("WalkError NoContent NoPlace BadPlan Idle NoPhase NoContents NoNumber OtherPlan NoNumbers BadProgram "
               "NoBound Over NoHand NothingDone BadScript TooMany BadText NoDealing NotFree Free NoRow BadQuestion "
               "NoWords NoLot NoSorter OtherQuestion NoStanding NoLine NoName"),
    "contents": "is_content same_signs sign least_content",
    "plans": "Plan phases steps",
    "running": "events whole_run looked",
    "alikes": "alike parting clean",
    "joining": "behind beside renumbered",
    "programs": "Program",
    "leading": "program_events once_events held",
    "depths": "depths followed",
    "runs": "Run",
    "scripts": "Script script_events",
    "compiling": "compiled",
    "scripttexts": "script_text read_script",
    "pieces": "pieces web is_free stuck is_stuck",
    "hands": "fewest_hands least_dealing need is_need",
    "making": "made",
    "strangers": "broken is_broken",
    "once": ("crosses crossing is_crossing fewest_once least_once made_once broken_once is_broken_once"),
    "late": "late_hands late_paper is_late_paper",
    "questions": "Question answer",
    "sorts": "parted sorts_many some_sorts least_word",
    "sorters": "sorted_by sorter is_sorter",
    "partings": "finest boxes is_answered is_boxes",
    "answering": "said answering wrong_words",
    "bench": "Bench",
    "texts": "content_text plan_text program_text question_text",
    "reading": "read_content read_plan read_program read_question",
    "desk": "Desk",
}
OF_CLASSES = {
    "Plan": "__init__ __eq__",
    "Program": "__init__ __eq__",
    "Script": "__init__ __eq__",
    "Question": "__init__ __eq__",
    "Bench": "__init__ turn put exchange row plan web fewest crosses dealt deal joined back changes trying copy",
    "Desk": "__init__ tell undoable",
    "Run": "__init__ deed standing walks looked deeds back copy",
}
BUILTINS = set("len range enumerate zip min max sum abs sorted reversed int str bool list tuple dict set isinstance ord repr "
               "any all divmod super type ValueError".split())
METHODS = set("append clear copy count endswith extend find get index insert items join keys lower lstrip pop remove replace "
              "reverse rfind rstrip setdefault split startswith strip update upper values bit_length isdigit".split())
BARRED = ("typing typing_extensions enum Enum IntEnum StrEnum Flag IntFlag Generic Protocol ABC ABCMeta namedtuple NamedTuple "
          "TypedDict TYPE_CHECKING abstractmethod register mro elements open input law version_info with_traceback "
          "add_note attrgetter breakpoint builtins compile copyright credits delattr dir eval exec exit gc getattr globals "
          "hasattr help id importlib license locals methodcaller os quit setattr vars sys").split()
NOT_USED = (ast.AsyncFunctionDef, ast.Global, ast.With, ast.ExceptHandler, ast.GeneratorExp, ast.Yield, ast.YieldFrom, ast.Lambda,
            ast.Set, ast.SetComp, ast.Match, ast.NamedExpr, ast.Import, ast.Assert, ast.Delete, ast.Div, ast.AnnAssign,
            ast.JoinedStr, ast.Starred, ast.Nonlocal)
AT_ONCE = ("range", "zip", "enumerate", "reversed")
VIEWS = ("items", "keys", "values")
TAKERS = ("list", "tuple", "dict", "sorted", "sum", "any", "all", "enumerate", "zip", "len", "min", "max")
CHANGERS = ("append", "pop", "extend", "insert", "remove", "clear", "update", "setdefault", "reverse")


def is_plain(node):
    """Whether an expression at module level is a plain value."""
    if isinstance(node, ast.Constant):
        return True
    if isinstance(node, ast.UnaryOp) and isinstance(node.op, ast.USub):
        return is_plain(node.operand)
    if isinstance(node, (ast.Tuple, ast.List)):
        return all(is_plain(item) for item in node.elts)
    if isinstance(node, ast.Dict):
        return all(is_plain(item) for item in node.keys + node.values)
    return False


class Source:
    """A file of the package."""

    def __init__(self, name):
        self.name = name
        with open(os.path.join(FOLDER, name), encoding="utf-8") as file:
            self.text = file.read()
        self.tree = ast.parse(self.text)
        self.parents = {}
        for node in ast.walk(self.tree):
            for child in ast.iter_child_nodes(node):
                self.parents[child] = node

    def imports(self):
        return [node for node in self.tree.body if isinstance(node, ast.ImportFrom)]

    def defined(self):
        found = []
        for node in self.tree.body:
            if isinstance(node, (ast.FunctionDef, ast.ClassDef)):
                found.append(node.name)
            elif isinstance(node, ast.Assign):
                found.append(node.targets[0].id)
        return found

    def docstrings(self):
        found = []
        for node in ast.walk(self.tree):
            if isinstance(node, (ast.Module, ast.FunctionDef, ast.ClassDef)) and ast.get_docstring(node) is not None:
                found.append(node.body[0].value)
        return found


class LanguageTest(unittest.TestCase):

    @classmethod
    def setUpClass(cls):
        cls.sources = [Source(name) for name in sorted(os.listdir(FOLDER)) if name != "__pycache__"]
        cls.methods = {node.name for source in cls.sources for top in source.tree.body if isinstance(top, ast.ClassDef)
                       for node in top.body if isinstance(node, ast.FunctionDef)}

    def each(self, kinds):
        for source in self.sources:
            for node in ast.walk(source.tree):
                if isinstance(node, kinds):
                    yield source, node, f"{source.name}:{getattr(node, 'lineno', 0)}"

    def test_files(self):
        for source in self.sources:
            self.assertRegex(source.name, "^[a-z_]+[.]py$")
            lines = source.text.split("\n")
            self.assertLessEqual(len(lines), 400, source.name)
            for number, line in enumerate(lines, 1):
                self.assertRegex(line, "^[ -~]{0,120}$", f"{source.name}:{number}")
                self.assertEqual(line, line.rstrip(), f"{source.name}:{number}")

    def test_module_level(self):
        for source in self.sources:
            for at, node in enumerate(source.tree.body):
                where = f"{source.name}:{node.lineno}"
                if isinstance(node, ast.Expr):
                    self.assertEqual(at, 0, where)
                    self.assertIsInstance(node.value.value, str, where)
                elif isinstance(node, ast.Assign):
                    self.assertEqual(len(node.targets), 1, where)
                    self.assertIsInstance(node.targets[0], ast.Name, where)
                    self.assertTrue(is_plain(node.value), where)
                else:
                    self.assertIsInstance(node, (ast.ImportFrom, ast.FunctionDef, ast.ClassDef), where)
            names = source.defined() + [alias.name for node in source.imports() for alias in node.names]
            self.assertEqual(len(names), len(set(names)), source.name)

    def test_imports(self):
        sources = {source.name: source for source in self.sources}
        lead = {}
        for source in self.sources:
            lead[source.name] = []
            for node in source.imports():
                self.assertTrue(node.module.startswith("wholewalks.") and node.level == 0, source.name)
                other = node.module.split(".", 1)[1] + ".py"
                lead[source.name].append(other)
                for alias in node.names:
                    self.assertIsNone(alias.asname)
                    self.assertIn(alias.name, sources[other].defined(), f"{source.name}: {alias.name}")
                    self.assertRegex(source.text.split("\n\n\n", 1)[1], rf"\b{alias.name}\b", f"{source.name}: {alias.name}")
        while lead:
            free = [name for name, others in lead.items() if not [other for other in others if other in lead]]
            self.assertNotEqual(free, [], "imports lead round")
            for name in free:
                del lead[name]

    def test_interface(self):
        for name, words in INTERFACE.items():
            source = [source for source in self.sources if source.name == name + ".py"][0]
            for word in words.split():
                self.assertIn(word, source.defined(), name)

    def test_methods_stand_in_the_class_itself(self):
        own = {node.name: [item.name for item in node.body if isinstance(item, ast.FunctionDef)]
               for _, node, _ in self.each(ast.ClassDef)}
        for name, words in OF_CLASSES.items():
            for word in words.split():
                self.assertIn(word, own[name], name)

    def test_functions(self):
        for source, node, where in self.each((ast.FunctionDef, ast.ClassDef)):
            self.assertEqual(node.decorator_list, [], where)
            if isinstance(node, ast.FunctionDef):
                self.assertLessEqual(node.end_lineno - node.lineno + 1, 40, where)
                self.assertIn(type(source.parents[node]), (ast.Module, ast.ClassDef), where)
                plain = node.args
                self.assertEqual([plain.vararg, plain.kwarg, plain.kwonlyargs, plain.defaults, plain.posonlyargs],
                                 [None, None, [], [], []], where)
                if node.name.startswith("__"):
                    self.assertIn(node.name, ("__init__", "__eq__"), where)
            else:
                for item in node.body:
                    self.assertTrue(isinstance(item, ast.FunctionDef) or isinstance(item.value, ast.Constant), where)

    def test_what_is_not_used(self):
        for _, node, where in self.each(NOT_USED):
            self.fail(f"{where}: {type(node).__name__}")

    def test_what_a_finally_does(self):
        for source, node, where in self.each(ast.Try):
            self.assertEqual((len(node.body), node.orelse), (1, []), where)
            for inner in node.finalbody:
                self.assertIsInstance(inner, ast.Assign, where)
                self.assertIsInstance(inner.targets[0], ast.Attribute, where)
                self.assertIsInstance(inner.value, ast.Name, where)

    def test_names(self):
        known = set(dir(builtins))
        for source in self.sources:
            fixed = {alias.name for node in source.imports() for alias in node.names}
            fixed |= {node.name for node in source.tree.body if isinstance(node, ast.ClassDef)}
            for node in ast.walk(source.tree):
                where = f"{source.name}:{getattr(node, 'lineno', 0)}"
                if isinstance(node, ast.Name) and isinstance(node.ctx, ast.Load) and node.id in known:
                    self.assertIn(node.id, BUILTINS, where)
                    taken = source.parents[node]
                    if node.id == "super":
                        self.assertIsInstance(taken, ast.Call, where)
                if isinstance(node, ast.Name) and isinstance(node.ctx, ast.Store):
                    self.assertNotIn(node.id, known | fixed | set(BARRED), where)
                if isinstance(node, ast.arg):
                    self.assertNotIn(node.arg, known | fixed | set(BARRED), where)
                if isinstance(node, (ast.FunctionDef, ast.ClassDef)):
                    self.assertNotIn(node.name, known | set(BARRED), where)
                if isinstance(node, ast.Name):
                    self.assertRegex(node.id, "^(_|[A-Za-z][A-Za-z0-9_]*)$", where)
                    if node.id == "_":
                        self.assertIsInstance(node.ctx, ast.Store, where)

    def test_barred_words(self):
        for source in self.sources:
            spans = [(node.lineno, node.end_lineno) for node in source.docstrings()]
            for number, line in enumerate(source.text.split("\n"), 1):
                if any(first <= number <= last for first, last in spans):
                    continue
                code = line.split("#", 1)[0]
                for word in BARRED:
                    self.assertIsNone(re.search(rf"\b{word}\b", code), f"{source.name}:{number}: {word}")
                self.assertIsNone(re.search(r"\btype\b(?!\()", code), f"{source.name}:{number}")

    def test_values(self):
        for source, node, where in self.each(ast.Constant):
            self.assertNotIsInstance(node.value, (float, complex, bytes), where)
            if isinstance(node.value, str) and node not in source.docstrings():
                self.assertNotIn("%", node.value, where)
                self.assertNotRegex(node.value, "__", where)
        for _, node, where in self.each(ast.Compare):
            for op, other in zip(node.ops, node.comparators):
                if isinstance(op, (ast.Is, ast.IsNot)):
                    told = isinstance(other, ast.Constant) and other.value in (None, True, False)
                    told = told or (isinstance(other, ast.Call) and other.func.id == "type")
                    self.assertTrue(told, where)
        for _, node, where in self.each(ast.Pow):
            self.fail(where)

    def test_calls(self):
        for source, node, where in self.each(ast.Call):
            self.assertEqual(node.keywords, [], where)
            if isinstance(node.func, ast.Attribute):
                self.assertIn(node.func.attr, METHODS | self.methods, where)
            else:
                self.assertIsInstance(node.func, ast.Name, where)
            name = node.func.id if isinstance(node.func, ast.Name) else None
            view = node.func.attr if isinstance(node.func, ast.Attribute) else None
            parent = source.parents[node]
            if name in AT_ONCE or view in VIEWS:
                looped = isinstance(parent, (ast.For, ast.comprehension)) and parent.iter is node
                taken = (isinstance(parent, ast.Call) and isinstance(parent.func, ast.Name) and parent.func.id in TAKERS
                         and parent.args[0] is node)
                self.assertTrue(looped or taken, where)
            if name == "set":
                told = isinstance(parent, ast.Call) and parent.func.id in ("len", "sorted")
                self.assertTrue(told or isinstance(parent, ast.Compare), where)

    def test_loops_do_not_change_what_they_go_over(self):
        for _, node, where in self.each(ast.For):
            over = ast.unparse(node.iter)
            for inner in ast.walk(ast.Module(node.body, [])):
                if isinstance(inner, ast.Call) and isinstance(inner.func, ast.Attribute) and inner.func.attr in CHANGERS:
                    self.assertNotIn(over, (ast.unparse(inner.func.value), f"enumerate({ast.unparse(inner.func.value)})"), where)
                if isinstance(inner, ast.Subscript) and isinstance(inner.ctx, ast.Store):
                    self.assertNotIn(over, (ast.unparse(inner.value), f"enumerate({ast.unparse(inner.value)})"), where)

    def test_attributes(self):
        for source, node, where in self.each(ast.ClassDef):
            stored = {inner.attr for inner in ast.walk(node)
                      if isinstance(inner, ast.Attribute) and isinstance(inner.ctx, ast.Store)}
            own = {inner.name for inner in node.body if isinstance(inner, ast.FunctionDef)}
            self.assertEqual(stored & own, set(), where)
            self.assertEqual(stored & (set(VIEWS) | set(CHANGERS) | {"args", "sort", "hex", "encode", "format"}), set(), where)
