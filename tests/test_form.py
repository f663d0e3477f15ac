"""How the files of the package are written: the rules that can be asked of the code alone, and the interface."""

import ast
import builtins
import inspect
import importlib
import os
import unittest

ROOT = os.path.dirname(os.path.dirname(os.path.abspath(__file__)))
FOLDER = os.path.join(ROOT, "endsahead")

# In the order in which a module may use those above it.
INTERFACE = {
    "errors": {
        "EndError": None, "NoAnswer": "place", "NoCommand": "line", "NoEnding": "", "NoTree": "index",
        "NoWord": "place", "Nothing": "", "TooLong": "most", "TooMany": "most", "Wrong": "place",
    },
    "words": {
        "sort_of_word": "thing", "is_row": "thing", "cut": "text", "show": "row", "number_word": "integer",
        "fresh_name": "names", "number_of": "word",
    },
    "forms": {"is_integer": "thing", "is_name": "thing", "is_kind": "thing", "is_lot": "thing"},
    "library": {
        "sort_of": "declarations name", "choice_of": "declarations name", "kinds_in": "declarations",
        "once_kinds": "declarations", "plain_kinds": "declarations", "fields_of": "declarations name",
        "arms_of": "declarations name", "arm_of": "declarations name", "function_of": "declarations name",
        "makers": "declarations", "fields_with": "declarations kind", "library_of": "declarations",
        "is_once": "declarations kind", "is_stock": "declarations thing",
    },
    "trees": {
        "is_expression": "thing", "is_statement": "thing", "is_block": "thing", "is_declaration": "thing",
        "is_program": "thing", "parts_of": "tree", "expressions_in": "block", "blocks_of": "statement",
    },
    "shower": {
        "row_of": "program", "row_of_expression": "tree level", "row_of_block": "block", "show_program": "program",
    },
    "reader": {"read_program": "row", "read_text": "text", "read_expression": "row", "needless": "row"},
    "spends": {
        "kind_of": "declarations sight tree", "gives": "block", "names_spent": "declarations sight tree",
        "spent_behind": "declarations sight spent block",
    },
    "right": {"broken": "program", "is_right": "program", "is_right_row": "row", "sights": "program index"},
    "stocks": {
        "is_above": "one other", "is_met": "lot stock", "added": "declarations stocks", "joined": "stocks",
        "taken": "declarations one other", "without": "declarations one other", "stock_of": "declarations kinds",
        "least_of": "stocks", "sums_of": "declarations lots", "joins_of": "lots",
    },
    "making": {
        "rules_of": "declarations", "first_table": "declarations", "next_table": "declarations table",
        "least_stocks": "declarations", "kind_of_shape": "declarations shape", "spent_by": "declarations shape",
        "shape_for": "declarations kind stock", "is_shape": "declarations kind thing", "is_closed": "declarations thing",
        "shows_none": "declarations kind stock thing",
    },
    "blocks": {
        "next_lot": "declarations ex lot", "block_stocks": "declarations kind", "rounds_many": "declarations kind",
        "plan_for": "declarations kind stock", "is_plan": "declarations kind stock thing",
        "is_closed_for": "declarations kind ex thing", "shows_no_plan": "declarations kind stock ex thing",
    },
    "writing": {
        "names_stock": "declarations names", "written": "declarations shape names", "new_names": "seen many",
        "written_plan": "declarations plan names seen",
    },
    # No part of the interface: what stands and demands need.
    "standing": {},
    "stands": {
        "can_be_read": "row", "first_unread": "row", "function_at": "row", "names_at": "row", "stock_at": "row",
        "kinds_to_come": "row",
    },
    "demands": {"demands": "row", "is_met": "row demand"},
    # No part of the interface: tables that are kept.
    "tables": {},
    "ends": {"is_beginning": "row", "ending": "row"},
    "nopapers": {"none_paper": "row", "is_none_paper": "row thing"},
    "offers": {"first_dead": "row", "is_offered": "row word", "offers": "row"},
    "lacks": {"widened": "row stock", "lacks": "row", "is_lack": "row stock"},
    "values": {
        "is_of_kind": "declarations kind thing", "are_fresh": "declarations values", "tokens_in": "declarations value",
        "show_value": "declarations value",
    },
    "running": {
        "run": "program name arguments world most", "handed_over": "declarations log value", "calls_of": "log name",
    },
    "kept": {"Kept": "row"},
    "desk": {"Desk": ""},
}
CLASSES = {
    "kept": {
        "row": "", "put": "index words", "take": "index many", "undo": "", "write": "word", "finish": "", "dead": "",
        "program": "", "lacks": "", "paper": "", "offers": "index", "instead": "index", "may_stand": "index word",
        "twin": "",
    },
    "desk": {"execute": "line", "kept": "", "twin": ""},
}

BUILTINS = (
    "len range enumerate zip min max sum abs sorted reversed int str bool list tuple dict set isinstance ord repr any "
    "all divmod ValueError KeyError NotImplemented"
).split()
METHODS = (
    "append clear copy count endswith extend find get index insert isalnum isalpha isdigit islower isspace isupper "
    "items join keys ljust lower lstrip partition pop remove replace reverse rfind rjust rpartition rsplit rstrip "
    "setdefault split splitlines startswith strip update upper values zfill bit_length add discard"
).split()
BARRED_NAMES = "register mro elements open input law version_info with_traceback add_note".split()
BARRED_WORDS = (
    "type typing typing_extensions enum Enum Flag Generic Protocol ABC namedtuple NamedTuple TypedDict abstractmethod"
).split()
# No generators: a package with a class that compares must hand lists to all, any, sorted and the like.
BARRED_NODES = (
    ast.GeneratorExp, ast.Yield, ast.YieldFrom, ast.Global, ast.AsyncFunctionDef, ast.Await, ast.Div, ast.Import,
)


def file_names():
    return sorted(name for name in os.listdir(FOLDER) if name != "__pycache__")


def text_of(name):
    with open(os.path.join(FOLDER, name), encoding="utf-8", newline="") as file:
        return file.read()


def tree_of(name):
    return ast.parse(text_of(name))


def modules():
    """Return the tuples (module's name, its tree) of all files that hold code."""
    return [(name[:-3], tree_of(name)) for name in file_names() if name != "__init__.py"]


class Form(unittest.TestCase):

    def test_folder(self):
        self.assertTrue(all(name.endswith(".py") for name in file_names()))
        self.assertEqual(text_of("__init__.py"), "")

    def test_size_and_characters(self):
        for name in file_names():
            lines = text_of(name).split("\n")
            self.assertLessEqual(len(lines), 399, name)
            for number, line in enumerate(lines, 1):
                self.assertLessEqual(len(line), 120, (name, number))
                self.assertTrue(all(" " <= sign <= "~" for sign in line), (name, number))
                self.assertEqual(line, line.rstrip(), (name, number))

    def test_functions_are_small_and_bare(self):
        for name, tree in modules():
            for node in ast.walk(tree):
                if isinstance(node, ast.FunctionDef):
                    self.assertLessEqual(node.end_lineno - node.lineno + 1, 40, (name, node.name))
                    self.assertEqual(node.decorator_list, [], (name, node.name))
                    self.assertIsNone(node.returns, (name, node.name))

    def test_nothing_barred(self):
        for name, tree in modules():
            for node in ast.walk(tree):
                self.assertNotIsInstance(node, BARRED_NODES, (name, getattr(node, "lineno", 0)))
                if isinstance(node, ast.Constant) and isinstance(node.value, str):
                    self.assertNotIn("%", node.value, name)
                if isinstance(node, ast.Constant):
                    self.assertNotIsInstance(node.value, (float, complex, bytes), name)

    def test_imports(self):
        order = list(INTERFACE)
        for name, tree in modules():
            for node in ast.walk(tree):
                if isinstance(node, ast.ImportFrom):
                    self.assertIn(node, tree.body, name)
                    self.assertEqual(node.level, 0, name)
                    package, _, used = node.module.partition(".")
                    self.assertEqual(package, "endsahead", name)
                    self.assertLess(order.index(used), order.index(name), (name, used))
                    for alias in node.names:
                        self.assertIsNone(alias.asname, name)
                        self.assertIn(alias.name, names_bound(tree_of(used + ".py")), (name, alias.name))

    def test_each_import_is_used(self):
        for name, tree in modules():
            used = [node.id for node in ast.walk(tree) if isinstance(node, ast.Name)]
            for node in tree.body:
                if isinstance(node, ast.ImportFrom):
                    for alias in node.names:
                        self.assertIn(alias.name, used, name)

    def test_names(self):
        for name, tree in modules():
            bound = names_bound(tree)
            self.assertEqual(len(bound), len(set(bound)), name)
            for node in ast.walk(tree):
                for word in names_given(node):
                    self.assertNotIn(word, vars(builtins), (name, word))
                    self.assertNotIn(word, BARRED_NAMES + BARRED_WORDS, name)
                    self.assertFalse(word.startswith("__") and word not in ("__init__", "__eq__"), (name, word))
                if isinstance(node, ast.Name) and isinstance(node.ctx, ast.Store):
                    self.assertNotIn(node.id, imported(tree), name)

    def test_no_local_name_is_that_of_an_import_or_a_class(self):
        for name, tree in modules():
            kept = [*imported(tree), *[node.name for node in tree.body if isinstance(node, ast.ClassDef)]]
            for node in ast.walk(tree):
                if isinstance(node, ast.arg):
                    self.assertNotIn(node.arg, kept, name)
                if isinstance(node, ast.Name) and isinstance(node.ctx, ast.Store):
                    self.assertNotIn(node.id, kept, name)

    def test_sets_are_sorted_or_counted_at_once(self):
        for name, tree in modules():
            for node in ast.walk(tree):
                for part in ast.iter_child_nodes(node):
                    made = isinstance(part, ast.Call) and isinstance(part.func, ast.Name) and part.func.id == "set"
                    if isinstance(part, (ast.Set, ast.SetComp)) or made:
                        counted = isinstance(node, ast.Call) and isinstance(node.func, ast.Name) and node.func.id in ("sorted", "len")
                        # Two functions keep one to ask it for members alone.
                        self.assertTrue(counted or name in ("words", "lacks"), (name, part.lineno))

    def test_lists_and_dicts_at_module_level_are_only_read(self):
        for name, tree in modules():
            kept = [node.targets[0].id for node in tree.body if isinstance(node, ast.Assign) and isinstance(node.value, (ast.Dict, ast.List))]
            for node in ast.walk(tree):
                if isinstance(node, (ast.Starred, ast.Return)) and isinstance(node.value, ast.Name):
                    self.assertNotIn(node.value.id, kept, name)
                if isinstance(node, ast.Assign) and isinstance(node.value, ast.Name):
                    self.assertNotIn(node.value.id, kept, name)

    def test_builtins_and_methods(self):
        own = {node.name for _, tree in modules() for node in ast.walk(tree) if isinstance(node, ast.FunctionDef)}
        for name, tree in modules():
            for node in ast.walk(tree):
                if isinstance(node, ast.Name) and node.id in vars(builtins):
                    self.assertIn(node.id, BUILTINS, name)
                if isinstance(node, ast.Call) and isinstance(node.func, ast.Attribute):
                    self.assertIn(node.func.attr, [*METHODS, *own], name)
                    self.assertEqual(node.keywords, [], name)

    def test_module_level_is_plain(self):
        for name, tree in modules():
            for node in tree.body[1:]:
                self.assertIsInstance(node, (ast.ImportFrom, ast.FunctionDef, ast.ClassDef, ast.Assign), name)
                if isinstance(node, ast.Assign):
                    self.assertFalse(any(isinstance(part, ast.Call) for part in ast.walk(node)), name)
            self.assertIsNotNone(ast.get_docstring(tree), name)


class Interface(unittest.TestCase):

    def test_defined_in_their_files(self):
        for name, members in INTERFACE.items():
            module = importlib.import_module("endsahead." + name)
            defined = [node.name for node in tree_of(name + ".py").body if hasattr(node, "name")]
            for member, parameters in members.items():
                self.assertIn(member, defined)
                made = getattr(module, member)
                if inspect.isclass(made):
                    made = made.__init__ if parameters else None
                if made is not None:
                    told = [one for one in inspect.signature(made).parameters if one != "self"]
                    self.assertEqual(told, parameters.split(), member)

    def test_methods_are_defined_in_their_classes(self):
        for name, members in CLASSES.items():
            made = [node for node in tree_of(name + ".py").body if isinstance(node, ast.ClassDef)]
            self.assertEqual([node.name for node in made], [name.capitalize()])
            defined = {node.name: node for node in made[0].body if isinstance(node, ast.FunctionDef)}
            for member, parameters in members.items():
                told = [one.arg for one in defined[member].args.args]
                self.assertEqual(told, ["self", *parameters.split()], member)

    def test_no_name_is_a_method_and_an_attribute_of_one_class(self):
        for name, tree in modules():
            for made in tree.body:
                if isinstance(made, ast.ClassDef):
                    methods = [one.name for one in made.body if isinstance(one, ast.FunctionDef)]
                    stored = [one.attr for one in ast.walk(made) if isinstance(one, ast.Attribute) and isinstance(one.ctx, ast.Store)]
                    self.assertEqual(set(methods) & set(stored), set(), (name, made.name))


def imported(tree):
    return [alias.name for node in tree.body if isinstance(node, ast.ImportFrom) for alias in node.names]


def names_bound(tree):
    """Return all names that a file binds at module level."""
    bound = imported(tree)
    for node in tree.body:
        if isinstance(node, (ast.FunctionDef, ast.ClassDef)):
            bound.append(node.name)
        elif isinstance(node, ast.Assign):
            bound.extend(target.id for target in node.targets)
    return bound


def names_given(node):
    """Return the names that a node gives to something."""
    if isinstance(node, (ast.FunctionDef, ast.ClassDef)):
        return [node.name]
    if isinstance(node, ast.arg):
        return [node.arg]
    if isinstance(node, ast.Name) and isinstance(node.ctx, ast.Store):
        return [node.id]
    if isinstance(node, ast.Attribute):
        return [node.attr] if node.attr in BARRED_NAMES else []
    return []


if __name__ == "__main__":
    unittest.main()
