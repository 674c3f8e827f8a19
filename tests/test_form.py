"""The interface as DOC.md lists it, and the size and characters of the files."""

import ast
import builtins
import pathlib
import unittest

PACKAGE = pathlib.Path(__file__).resolve().parent.parent / "colonnade"
LINK = "parted own_count inner_count joined"
FILTER = "columns_used leaves holds verdict"
FUNCTIONS = {
    "relations": "is_enough weakest strongest kept_by evidence",
    "values": "is_name is_value domain_of next_value value_before near_values written",
    "lanes": "lane_count width_of pack unpack lanes_below",
    "links": "link_named",
    "chains": "all_chains joined_cells cut_cells",
    "cutting": "cheapest_chain block_price cheapest_cutting",
    "comers": "spans withstands place_comer comers_placed breaking",
    "mending": "leads mend_book",
    "filters": "parts_of every_of",
    "boxes": "hull in_box fewest_covers bars_of",
    "translating": "on_codes",
    "reading": "split_words read_filter read_question",
    "plainly": "plain_answer chosen_rows",
    "printing": "answer_lines",
    "codedly": "stage_after coded_answer",
    "patterns": "order_patterns test_weight test_need holds_always numbers_told",
    "needs": "joint_needs",
    "slips": "slip_for",
    "coded": "make_scene",
    "plans": "plain_plan",
    "engine": "work unopened_rows at_most vectors",
    "rules": "apply_rule follow best_rules best_plan",
    "moments": "seen_at ever_seen gone_toggles",
    "merging": "runs_of merge_order rounds_of",
    "deeds": "recode cut rebook arrange sort_table sort_by_codes gather let_go perform perform_all",
    "records": "read_records found_records last_found",
    "recovery": "recover",
    "papers": "sure_verdict answer_paper paper_needs carried_paper found_paper",
    "checker": "accepts",
}
CLASSES = {
    "links": {"Link": LINK, "Runs": LINK, "Steps": LINK, "Base": LINK, "Pick": LINK},
    "chains": {"Chain": "__init__ keeps write read codes_of sample below"},
    "cutting": {"Cutting": "__init__"},
    "books": {"Book": "__init__ keeps strays placed counted code_of value_of __contains__ bound __add__ base"},
    "comers": {"Foe": "__init__ told"},
    "mending": {"Mending": "__init__"},
    "bridges": {"Bridge": "__init__ keeps __call__ back"},
    "filters": {
        "Filter": "__and__ __or__ __invert__", "Compare": FILTER, "Pair": FILTER, "Within": FILTER,
        "Every": FILTER, "Some": FILTER, "Opposite": FILTER, "Fixed": FILTER,
    },
    "stretches": {
        "Stretches": "__init__ __iter__ __contains__ __or__ __and__ __sub__ __xor__ covering total each_place"
                     " rest within moved",
    },
    "shapes": {"Shapes": "__init__ columns_of table_of domain_of_column book_of domain_of_book columns_with"},
    "questions": {"Question": "__init__ grouped __str__ columns_named books_named scan_tests cross_tests with_tests"},
    "needs": {"Needs": "__init__ need_at overall latest_openings in_time all_enough places_need lines"},
    "slips": {"Slip": "__init__"},
    "coded": {
        "CodedColumn": "__init__ numbers", "Block": "__init__ names column_named bounds",
        "CodedTable": "__init__ numbers_of",
        "Scene": "__init__ book_named table_named relations rows_of all_rows",
    },
    "plans": {"Plan": "__init__ lines"},
    "engine": {"Outcome": "__init__"},
    "stores": {
        "Store": "__init__ commit restore scene_at rows_of places_of layout sizes toggles book_named weights plan_for"
                 " ask trial",
    },
    "disks": {"Disk": "__init__ put sync strike cut read length synced all_files limit set_limit fall"},
    "records": {"Record": "__init__ written_cells"},
    "houses": {"House": "__init__ commit restore perform sync strike sure written possible unsure files_now"},
    "checker": {
        "Claim": "accepts", "AnswerClaim": "__init__ accepts", "PlanClaim": "__init__ accepts",
        "MendingClaim": "__init__ accepts", "CuttingClaim": "__init__ accepts", "FoundClaim": "__init__ accepts",
    },
    "carries": {"Carry": "__init__ new_place new_code keeps_places keeps_codes __add__ carried_rows"},
}
FILES = sorted(PACKAGE.rglob("*.py"))
USED_BUILTINS = (
    "len range enumerate zip min max sum abs sorted reversed int str bool list tuple dict set isinstance ord repr any"
    " all divmod iter next map super property staticmethod classmethod ValueError KeyError NotImplemented"
).split()


OPERATORS = (ast.Add, ast.Sub, ast.Mult, ast.FloorDiv, ast.Mod, ast.Pow, ast.LShift, ast.RShift, ast.BitAnd, ast.BitOr,
             ast.BitXor)


def is_plain(node, names, nested=False):
    """Tell whether an expression is a plain value, made of literals and of these names."""
    if isinstance(node, ast.Constant):
        return isinstance(node.value, (bool, int, str, bytes)) or node.value is None
    if isinstance(node, ast.Name):
        return node.id in names
    if isinstance(node, ast.UnaryOp):
        return isinstance(node.op, (ast.USub, ast.Invert)) and is_plain(node.operand, names)
    if isinstance(node, ast.BinOp):
        return isinstance(node.op, OPERATORS) and is_plain(node.left, names) and is_plain(node.right, names)
    if isinstance(node, ast.Tuple):
        return all(is_plain(part, names, True) for part in node.elts)
    if isinstance(node, (ast.List, ast.Dict)) and not nested:
        parts = node.elts if isinstance(node, ast.List) else node.keys + node.values
        return all(part is not None and is_plain(part, names, True) for part in parts)
    return False


def has_plain_defaults(function, names):
    told = function.args.defaults + [node for node in function.args.kw_defaults if node is not None]
    return not function.decorator_list and all(is_plain(node, names, True) for node in told)


def is_docstring(node):
    return isinstance(node, ast.Expr) and isinstance(node.value, ast.Constant) and isinstance(node.value.value, str)


def unplain_parts(body, names):
    """Return the lines of a class that are no docstring, method or plain class value."""
    found = []
    for node in body:
        if isinstance(node, ast.Assign):
            good = len(node.targets) == 1 and isinstance(node.targets[0], ast.Name) and is_plain(node.value, (), True)
        elif isinstance(node, ast.FunctionDef):
            told = node.args.defaults + [part for part in node.args.kw_defaults if part is not None]
            good = all(is_plain(part, names, True) for part in told)
        else:
            good = is_docstring(node)
        if not good:
            found.append(node.lineno)
    return found


def unplain_rows(tree):
    """Return the lines of a module that rule L3 does not let stand at its level."""
    found, names = [], []
    for at, node in enumerate(tree.body):
        good = at == 0 and is_docstring(node)
        if isinstance(node, ast.ImportFrom):
            names.extend([alias.name for alias in node.names])
            good = True
        elif isinstance(node, ast.FunctionDef):
            good = has_plain_defaults(node, names)
            names.append(node.name)
        elif isinstance(node, ast.ClassDef):
            found.extend(unplain_parts(node.body, names))
            good = not node.decorator_list
        elif isinstance(node, ast.Assign) and len(node.targets) == 1 and isinstance(node.targets[0], ast.Name):
            good = is_plain(node.value, names) and node.targets[0].id not in names
            names.append(node.targets[0].id)
        if not good:
            found.append(node.lineno)
    return found


def tree_of(path):
    return ast.parse(path.read_text(encoding="ascii"))


class FormTest(unittest.TestCase):
    def test_interface_is_defined_in_its_files(self):
        for name in sorted(set(FUNCTIONS) | set(CLASSES)):
            body = tree_of(PACKAGE / f"{name}.py").body
            functions = [node.name for node in body if isinstance(node, ast.FunctionDef)]
            for wanted in FUNCTIONS.get(name, "").split():
                self.assertIn(wanted, functions, name)
            classes = {node.name: node for node in body if isinstance(node, ast.ClassDef)}
            for wanted, methods in CLASSES.get(name, {}).items():
                self.assertIn(wanted, classes, name)
                own = [node.name for node in classes[wanted].body if isinstance(node, ast.FunctionDef)]
                for method in methods.split():
                    self.assertIn(method, own, wanted)

    def test_sizes(self):
        for path in FILES:
            lines = path.read_text(encoding="ascii").split("\n")
            self.assertLessEqual(len(lines), 399, path.name)
            self.assertLessEqual(max(map(len, lines)), 120, path.name)
            for node in ast.walk(tree_of(path)):
                if isinstance(node, ast.FunctionDef):
                    self.assertLessEqual(node.end_lineno - node.lineno + 1, 40, (path.name, node.name))

    def test_characters(self):
        for path in FILES:
            for letter in path.read_text(encoding="ascii"):
                self.assertTrue(letter == "\n" or " " <= letter <= "~", path.name)
            for node in ast.walk(tree_of(path)):
                if isinstance(node, ast.Constant) and isinstance(node.value, str):
                    self.assertNotIn("%", node.value, path.name)

    def test_imports_are_of_the_package(self):
        for path in FILES:
            for node in ast.walk(tree_of(path)):
                self.assertNotIsInstance(node, (ast.Import, ast.Global, ast.AnnAssign, ast.AsyncFunctionDef))
                if isinstance(node, ast.ImportFrom):
                    self.assertTrue(node.module.startswith("colonnade."), path.name)
                    self.assertEqual(node.level, 0)

    def test_no_two_files_import_from_each_other(self):
        needed = {path.stem: [node.module.split(".")[1] for node in ast.walk(tree_of(path))
                              if isinstance(node, ast.ImportFrom)] for path in FILES}
        behind = {}
        while len(behind) < len(needed):
            free = [name for name in needed if name not in behind and all(other in behind for other in needed[name])]
            self.assertNotEqual(free, [], "a circle of imports")
            behind.update(dict.fromkeys(free))

    def test_names(self):
        for path in FILES:
            tree = tree_of(path)
            imported = {name.name for node in ast.walk(tree) if isinstance(node, ast.ImportFrom) for name in node.names}
            top = {node.name for node in tree.body if isinstance(node, (ast.FunctionDef, ast.ClassDef))}
            bound = {node.arg for node in ast.walk(tree) if isinstance(node, ast.arg)}
            read = set()
            for node in ast.walk(tree):
                if isinstance(node, ast.Name):
                    (read if isinstance(node.ctx, ast.Load) else bound).add(node.id)
            self.assertEqual(bound & (imported | top | set(dir(builtins))), set(), path.name)
            self.assertEqual(top & set(dir(builtins)), set(), path.name)
            self.assertEqual(imported - read, set(), path.name)
            self.assertEqual((read & set(dir(builtins))) - set(USED_BUILTINS), set(), path.name)

    def test_no_name_is_a_method_and_an_attribute(self):
        methods, attributes = set(), set()
        for path in FILES:
            for node in ast.walk(tree_of(path)):
                if isinstance(node, ast.ClassDef):
                    # A property with a setter is assigned as an attribute is.
                    own = [part for part in node.body if isinstance(part, ast.FunctionDef)]
                    methods |= {part.name for part in own if not part.decorator_list}
                if isinstance(node, ast.Attribute) and isinstance(node.ctx, ast.Store):
                    attributes.add(node.attr)
        self.assertEqual(methods & attributes, set())

    def test_no_division_and_no_literal_set(self):
        for path in FILES:
            for node in ast.walk(tree_of(path)):
                self.assertNotIsInstance(node, (ast.Div, ast.Mod, ast.Set), path.name)

    def test_module_level_holds_plain_values(self):
        for path in FILES:
            self.assertEqual(unplain_rows(tree_of(path)), [], path.name)

    def test_what_is_not_plain_is_found(self):
        for row in ("X = len('abc')", "X = [1, len('abc')]", "X = {'a': (1, int('2'))}", "X = -abs(3)", "X = 'a'.upper()",
                    "X = (1).real", "X = [1][0]", "X = [at for at in (1, 2)]", "X = 1 if 2 else 3", "X = lambda: 1",
                    "X = {1, 2}", "X = Y", "X = 1 < 2", "X = [[1]]", "X, Y = 1, 2", "X = Y = 1", "X += 1", "print(1)",
                    "if True:\n    X = 1", "for x in (1, 2):\n    pass", "X = f'{1}'", "X = not 1", "X: int = 1",
                    "class A:\n    X = len('a')", "class A:\n    X = 1\n    print(X)", "class A:\n    x = [1]",
                    "def f():\n    pass\nX = f()", "def f(x=len('a')):\n    pass", "def f(*, x=[]):\n    pass",
                    "class A:\n    def f(self, x={}):\n        pass", "X = 1\nX = 2", "def f():\n    pass\nX = {'f': f()}"):
            self.assertEqual(len(unplain_rows(ast.parse(row))), 1, row)
        for row in ("X = -3", "X = 'a' + 'b'", "X = 2 ** 29 - 1", "X = (1, ('a', None), True)", "X = {'a': (1, 2)}",
                    "X = 5\nY = X * 2\nZ = [X, Y]", "def f(x=-1, *, y=(1, 'a')):\n    return len(x)\nX = {'f': f}",
                    "class A:\n    \"\"\"An A.\"\"\"\n    X = -1\n    Y = ('a', 1)\n    def f(self, x=None):\n        pass",
                    "from colonnade.values import LETTERS\nX = LETTERS + 'b'", "\"\"\"Words.\"\"\"", "X = b'a'", "X = ~1"):
            self.assertEqual(unplain_rows(ast.parse(row)), [], row)

    def test_package_holds_only_files_of_python(self):
        others = [path.name for path in PACKAGE.iterdir() if path.suffix != ".py" and path.name != "__pycache__"]
        self.assertEqual(others, [])


if __name__ == "__main__":
    unittest.main()
