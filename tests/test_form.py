"""The package's own text: what the language rules ask of its form, as far as a program can see it."""

import ast
import builtins
import re
import unittest
from pathlib import Path

PACKAGE = Path(__file__).resolve().parent.parent / "fademill"
FILES = sorted(PACKAGE.glob("*.py"))
TREES = {path.stem: ast.parse(path.read_text(encoding="utf-8")) for path in FILES}

LIBRARY = {"heapq": {"heappush", "heappop", "heapify"}, "math": {"gcd", "lcm"}, "itertools": {"product", "permutations", "combinations"},
           "collections": {"deque", "defaultdict"}}
BUILTINS = set("""len range enumerate zip min max sum abs sorted reversed int str bool list tuple dict set isinstance ord
    repr any all divmod property ValueError KeyError NotImplementedError True False None""".split())
METHODS = set("""append clear copy count endswith extend find get index insert isalnum isalpha isdigit islower isspace
    isupper items join keys ljust lower lstrip partition pop remove replace reverse rfind rjust rpartition rsplit rstrip
    setdefault split splitlines startswith strip update upper values zfill bit_length add discard""".split())
# Methods that the package's own classes may not have, nor attributes that would be mistaken for them.
ATTRIBUTES_BARRED = set("""items keys values pop update append clear extend insert remove reverse setdefault sort args
    encode decode hex fromhex format format_map mro register elements open input law""".split())
NAMES_BARRED = set("""register mro elements open input law version_info attrgetter breakpoint builtins compile copyright
    credits delattr dir eval exec exit gc getattr globals hasattr help id importlib license locals methodcaller os quit
    setattr super type vars sys""".split())
WORDS_BARRED = re.compile(r"\b(type|typing|typing_extensions|enum|Enum|IntEnum|StrEnum|Flag|IntFlag|Generic|Protocol|ABC|"
                          r"ABCMeta|namedtuple|NamedTuple|TypedDict|TYPE_CHECKING|abstractmethod)\b|"
                          r"dataclass|overload|contextmanager|_wall|_WallAttr")
STATEMENTS_BARRED = (ast.AsyncFunctionDef, ast.AsyncFor, ast.AsyncWith, ast.Await, ast.Global, ast.Import, ast.Div,
                     ast.Yield, ast.YieldFrom, ast.Set, ast.SetComp, ast.Lambda, ast.GeneratorExp)

# What the document's interface lists, by file: functions, and of classes their methods and properties.
FUNCTIONS = {"machines": ("behind_touch", "behind_set", "behind_wait"), "programs": ("reached", "may_go_on"),
             "runs": ("run_lasting", "run_fading"), "needs": ("needed",), "walks": ("fault", "carries"),
             "books": ("rank", "moments", "can_be_kept"), "writing": ("kept",), "dooms": ("doom", "shows_doom"),
             "shares": ("share", "kept_best"), "papers": ("share_paper", "shows_share"),
             "rounds": ("endless", "keeps", "longest", "load"), "pauses": ("lost_by", "longest_pause"),
             "orders": ("called", "orders_kept", "best_order"), "universals": ("keeps_all", "least_share", "hardest"),
             "fadings": ("least_fades", "joined"), "hurries": ("fewest_touches", "kept_hurried", "shortest_rows"),
             "keepers": ("at_full_speed", "keepers_needed"),
             "milltexts": ("write_machine", "read_machine", "write_program", "read_program"),
             "sessions": ("read_session", "first_unlike")}
CLASSES = {("benches", "Mill"): ({"__init__": "self machine", "read": "self cell", "write": "self cell value",
                                  "touch": "self cell", "wait": "self"}, ("tick", "fresh", "held")),
           ("desks", "Desk"): ({"__init__": "self", "take_machine": "self text", "take_program": "self text",
                                "say": "self line"}, ()),
           ("sessions", "Session"): ({"__init__": "self text", "say": "self line", "text": "self"}, ("log",))}
ERRORS = ("MillError", "BadMachine", "BadProgram", "BadLine", "TooMany", "BadInputs", "BadNumber", "BadCell", "BadLives",
          "BadOrder", "NoWay", "NotCarried", "BadString")


def nodes(tree, *kinds):
    return [node for node in ast.walk(tree) if isinstance(node, kinds)]


def bound_names(tree):
    found = [node.id for node in nodes(tree, ast.Name) if not isinstance(node.ctx, ast.Load)]
    found += [node.name for node in nodes(tree, ast.FunctionDef, ast.ClassDef)]
    return found + [node.arg for node in nodes(tree, ast.arg)]


def docstrings(tree):
    owners = nodes(tree, ast.Module, ast.FunctionDef, ast.ClassDef)
    return [owner.body[0].value for owner in owners
            if owner.body and isinstance(owner.body[0], ast.Expr) and isinstance(owner.body[0].value, ast.Constant)]


def is_plain(node):
    if isinstance(node, ast.UnaryOp):
        return isinstance(node.op, ast.USub) and is_plain(node.operand)
    if isinstance(node, ast.Tuple):
        return all(is_plain(item) for item in node.elts)
    if isinstance(node, ast.Dict):
        return all(is_plain(item) for item in node.keys + node.values)
    return isinstance(node, ast.Constant)


class Form(unittest.TestCase):
    def test_files_and_characters(self):
        for path in PACKAGE.iterdir():
            if path.name != "__pycache__":
                self.assertRegex(path.name, r"^(__init__|[a-z][a-z0-9_]*)\.py$")
        for path in FILES:
            lines = path.read_text(encoding="utf-8").split("\n")
            self.assertLessEqual(len(lines), 399, path.name)
            for number, line in enumerate(lines, 1):
                self.assertRegex(line, r"^[ -~]{0,120}$", f"{path.name}:{number}")

    def test_functions_are_short(self):
        for name, tree in TREES.items():
            for function in nodes(tree, ast.FunctionDef):
                self.assertLessEqual(function.end_lineno - function.lineno + 1, 40, f"{name}.{function.name}")
                self.assertFalse(function.decorator_list and
                                 {ast.unparse(one).split(".")[-1] for one in function.decorator_list}
                                 - {"property", "setter", "staticmethod", "classmethod"})

    def test_imports(self):
        for name, tree in TREES.items():
            imports = nodes(tree, ast.ImportFrom)
            self.assertTrue(all(node in tree.body for node in imports), name)
            for node in imports:
                self.assertEqual((node.level, [one.asname for one in node.names if one.asname]), (0, []), name)
                for one in node.names:
                    used = [other for other in nodes(tree, ast.Name) if other.id == one.name]
                    self.assertTrue(used or name == "__init__", f"{name} imports {one.name} and does not use it")
                    if node.module in LIBRARY:
                        self.assertIn(one.name, LIBRARY[node.module])
                    else:
                        package, stem = node.module.split(".")
                        self.assertEqual(package, "fademill")
                        self.assertIn(one.name, self.defined(TREES[stem]), f"{name}: {one.name}")

    def defined(self, tree):
        names = [node.name for node in tree.body if isinstance(node, (ast.FunctionDef, ast.ClassDef))]
        return names + [node.targets[0].id for node in tree.body if isinstance(node, ast.Assign)]

    def test_no_two_files_import_from_each_other(self):
        after = {name: {node.module.split(".")[1] for node in nodes(tree, ast.ImportFrom) if node.module not in LIBRARY}
                 for name, tree in TREES.items()}
        while after:
            free = [name for name in after if not after[name] & set(after)]
            self.assertTrue(free, f"a circle among {sorted(after)}")
            after = {name: after[name] for name in after if name not in free}

    def test_module_level(self):
        for name, tree in TREES.items():
            names = self.defined(tree) + [one.name for node in nodes(tree, ast.ImportFrom) for one in node.names]
            self.assertEqual(len(names), len(set(names)), name)
            for at, node in enumerate(tree.body):
                plain = isinstance(node, (ast.ImportFrom, ast.FunctionDef, ast.ClassDef))
                if isinstance(node, ast.Assign):
                    plain = len(node.targets) == 1 and isinstance(node.targets[0], ast.Name) and is_plain(node.value)
                self.assertTrue(plain or (at == 0 and isinstance(node, ast.Expr)), f"{name}:{node.lineno}")

    def test_barred_kinds(self):
        for name, tree in TREES.items():
            self.assertEqual([node.lineno for node in nodes(tree, *STATEMENTS_BARRED) if hasattr(node, "lineno")], [], name)
            self.assertEqual(nodes(tree, ast.Div), [], name)
            for node in nodes(tree, ast.Constant):
                self.assertNotIsInstance(node.value, (float, complex, bytes))

    def test_names(self):
        for name, tree in TREES.items():
            bound = bound_names(tree)
            loaded = [node.id for node in nodes(tree, ast.Name) if isinstance(node.ctx, ast.Load)]
            for one in set(bound) - {"__init__"}:
                self.assertRegex(one, r"^(_|_?[A-Za-z][A-Za-z0-9_]*)$", name)
                self.assertFalse(one in NAMES_BARRED or hasattr(builtins, one), f"{name}: {one}")
            imported = [one.name for node in nodes(tree, ast.ImportFrom) for one in node.names]
            for one in set(loaded) - set(bound) - set(imported):
                self.assertIn(one, BUILTINS | {"super"}, name)
            self.assertEqual(loaded.count("super"), ast.unparse(tree).count("super().__init__("), name)
            self.assertNotIn("_", loaded, name)
            taken = set(imported) | {node.name for node in nodes(tree, ast.ClassDef)}
            functions = nodes(tree, ast.FunctionDef)
            inside = {one for function in functions for one in bound_names(function) if one != function.name}
            self.assertFalse(inside & taken, name)

    def test_attributes_and_methods(self):
        every_method, every_stored = set(), set()
        own = {node.name for tree in TREES.values() for node in nodes(tree, ast.FunctionDef)}
        for name, tree in TREES.items():
            for node in nodes(tree, ast.Attribute):
                if not isinstance(node.ctx, ast.Load):
                    self.assertNotIn(node.attr, ATTRIBUTES_BARRED | {"type"}, name)
            for node in nodes(tree, ast.Call):
                if isinstance(node.func, ast.Attribute):
                    self.assertIn(node.func.attr, METHODS | own, f"{name}:{node.lineno}")
            for node in nodes(tree, ast.ClassDef):
                methods = {item.name for item in node.body if isinstance(item, ast.FunctionDef)}
                stored = {item.attr for item in nodes(node, ast.Attribute) if isinstance(item.ctx, ast.Store)}
                self.assertFalse(methods & stored, f"{name}.{node.name}")
                every_method |= methods
                every_stored |= stored
        self.assertFalse(every_method & every_stored)

    def test_words_and_strings(self):
        for path in FILES:
            tree = TREES[path.stem]
            told = docstrings(tree)
            strings = [node for node in nodes(tree, ast.Constant) if isinstance(node.value, str) and node not in told]
            for node in strings:
                self.assertNotIn("%", node.value)
                self.assertIsNone(WORDS_BARRED.search(node.value), path.name)
            code = ast.unparse(tree)
            for node in told:
                code = code.replace(node.value, "")
            self.assertIsNone(WORDS_BARRED.search(code), path.name)

    def test_sets_are_not_iterated(self):
        for name, tree in TREES.items():
            for node in nodes(tree, ast.For, ast.comprehension):
                head = node.iter
                self.assertFalse(isinstance(head, ast.Call) and ast.unparse(head.func) in ("set", "frozenset"), name)

    def test_what_is_iterated_is_not_modified(self):
        changing = {"append", "extend", "insert", "pop", "remove", "clear", "update", "setdefault", "reverse", "add"}
        for name, tree in TREES.items():
            for loop in nodes(tree, ast.For):
                head = {ast.unparse(node) for node in ast.walk(loop.iter) if isinstance(node, (ast.Name, ast.Attribute))}
                for part in loop.body:
                    for call in nodes(part, ast.Call):
                        if isinstance(call.func, ast.Attribute) and call.func.attr in changing:
                            self.assertNotIn(ast.unparse(call.func.value), head, f"{name}:{call.lineno}")

    def test_handlers_name_errors(self):
        own = {node.name for node in nodes(TREES["errors"], ast.ClassDef)}
        for name, tree in TREES.items():
            for node in nodes(tree, ast.ExceptHandler):
                self.assertIsNotNone(node.type, name)
                self.assertLessEqual({one.id for one in nodes(node.type, ast.Name)}, own | {"KeyError"}, name)
            for node in nodes(tree, ast.Raise):
                self.assertTrue(node.exc is None or (isinstance(node.exc, ast.Call) and node.exc.func.id in own), name)


class Interface(unittest.TestCase):
    def test_each_function_is_defined_where_the_document_lists_it(self):
        for stem, names in FUNCTIONS.items():
            defined = [node.name for node in TREES[stem].body if isinstance(node, ast.FunctionDef)]
            for name in names:
                self.assertIn(name, defined)

    def test_arguments_have_the_names_of_the_document(self):
        listed = {"behind_touch": "machine lives cell", "behind_set": "machine lives cell", "behind_wait": "machine lives",
                  "reached": "cells program", "may_go_on": "cells program", "needed": "cells program index",
                  "run_lasting": "cells program inputs most", "run_fading": "machine program inputs most",
                  "fault": "machine program kept", "carries": "machine program kept", "rank": "machine program",
                  "moments": "machine program", "can_be_kept": "machine program", "kept": "machine program",
                  "doom": "machine program", "shows_doom": "machine program value", "share": "machine program",
                  "kept_best": "machine program", "share_paper": "machine program", "shows_share": "machine program value",
                  "endless": "machine cells", "keeps": "machine cells lead ring", "longest": "machine cells",
                  "load": "machine cells", "lost_by": "machine program kept ticks",
                  "longest_pause": "machine program kept", "called": "machine program order",
                  "orders_kept": "machine program", "best_order": "machine program", "keeps_all": "machine",
                  "least_share": "machine", "hardest": "machine", "least_fades": "rows program", "joined": "rows one other",
                  "fewest_touches": "machine program", "kept_hurried": "machine program",
                  "shortest_rows": "machine program", "at_full_speed": "machine program hands",
                  "keepers_needed": "machine program", "write_machine": "machine", "read_machine": "text",
                  "write_program": "cells program", "read_program": "cells text", "read_session": "text",
                  "first_unlike": "text"}
        found = {node.name: " ".join(arg.arg for arg in node.args.args)
                 for tree in TREES.values() for node in tree.body if isinstance(node, ast.FunctionDef)}
        self.assertEqual({name: found[name] for name in listed}, listed)
        self.assertEqual(set(listed), {name for names in FUNCTIONS.values() for name in names})

    def test_each_class_has_its_methods_and_properties_in_its_own_body(self):
        for (stem, name), (methods, properties) in CLASSES.items():
            body = [node.body for node in TREES[stem].body if isinstance(node, ast.ClassDef) and node.name == name][0]
            found = {node.name: node for node in body if isinstance(node, ast.FunctionDef)}
            for method, arguments in methods.items():
                self.assertEqual(found[method].decorator_list, [], method)
                self.assertEqual(" ".join(arg.arg for arg in found[method].args.args), arguments)
            told = [one for one, node in found.items() if [ast.unparse(part) for part in node.decorator_list] == ["property"]]
            self.assertEqual(tuple(told), properties)

    def test_each_error_is_defined_in_its_file(self):
        self.assertEqual(sorted(node.name for node in TREES["errors"].body if isinstance(node, ast.ClassDef)),
                         sorted(ERRORS))
