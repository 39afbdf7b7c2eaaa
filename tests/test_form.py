"""The form of the code: what of the language's rules can be seen without running it."""

import ast
import builtins
import pathlib
import unittest

FOLDER = pathlib.Path(__file__).resolve().parent.parent / "downtoground"
FILES = sorted(path for path in FOLDER.rglob("*") if "__pycache__" not in path.parts)
ALLOWED = """len range enumerate zip min max sum abs sorted reversed int str bool list tuple dict set
frozenset isinstance ord repr any all divmod pow iter next map getattr hasattr setattr super Exception
ValueError TypeError KeyError IndexError LookupError ZeroDivisionError ArithmeticError OverflowError
RuntimeError NotImplementedError AttributeError StopIteration NotImplemented""".split()
LIBRARY = ("heapq", "math", "itertools", "collections")
METHODS = """append clear copy count endswith extend find get index insert isalnum isalpha isdigit islower
isspace isupper items join keys ljust lower lstrip partition pop remove replace reverse rfind rjust
rpartition rsplit rstrip setdefault split splitlines startswith strip update upper values zfill bit_length
add discard sort""".split()


def trees():
    return [(path, ast.parse(path.read_text())) for path in FILES]


class FormTest(unittest.TestCase):

    def test_files_and_characters(self):
        self.assertGreater(len(FILES), 3)
        for path in FILES:
            self.assertEqual(path.suffix, ".py")
            self.assertRegex(path.stem, "^[a-z0-9_]+$")
            text = path.read_text()
            self.assertTrue(all(" " <= character <= "~" or character == "\n" for character in text), path)
            lines = text.split("\n")
            self.assertLessEqual(len(lines), 400, path)
            self.assertLessEqual(max(len(line) for line in lines), 120, path)

    def test_functions_are_short_and_not_decorated(self):
        for path, tree in trees():
            for node in ast.walk(tree):
                if isinstance(node, (ast.FunctionDef, ast.ClassDef)):
                    self.assertEqual(node.decorator_list, [], path)
                if isinstance(node, ast.FunctionDef):
                    self.assertLessEqual(node.end_lineno - node.lineno + 1, 40, (path, node.name))

    def test_imports_go_to_the_file_that_defines_and_never_round(self):
        above = {}
        for path, tree in trees():
            above[path.stem] = []
            for node in ast.walk(tree):
                self.assertNotIsInstance(node, ast.Import, path)
                if not isinstance(node, ast.ImportFrom) or node.module in LIBRARY:
                    continue
                self.assertEqual(node.level, 0)
                self.assertTrue(node.module.startswith("downtoground."), path)
                above[path.stem].append(node.module.split(".")[-1])
                defined = top_names(ast.parse((FOLDER / (above[path.stem][-1] + ".py")).read_text()))
                for name in node.names:
                    self.assertIn(name.name, defined)
                    self.assertIsNone(name.asname)
        while above:
            free = [name for name in above if not [other for other in above[name] if other in above]]
            self.assertTrue(free, above)
            for name in free:
                del above[name]

    def test_builtins_and_names(self):
        for path, tree in trees():
            for node in ast.walk(tree):
                if isinstance(node, ast.Name) and isinstance(node.ctx, ast.Load) and hasattr(builtins, node.id):
                    self.assertIn(node.id, ALLOWED, path)
                bound = [node.arg] if isinstance(node, ast.arg) else []
                if isinstance(node, ast.Name) and not isinstance(node.ctx, ast.Load):
                    bound.append(node.id)
                if isinstance(node, (ast.FunctionDef, ast.ClassDef)) and not node.name.startswith("__"):
                    bound.append(node.name)
                for name in bound:
                    self.assertFalse(hasattr(builtins, name), (path, name))

    def test_no_local_name_hides_an_import_or_a_class(self):
        for path, tree in trees():
            taken = [name.name for node in tree.body if isinstance(node, ast.ImportFrom) for name in node.names]
            taken += [node.name for node in tree.body if isinstance(node, ast.ClassDef)]
            for node in ast.walk(tree):
                name = node.arg if isinstance(node, ast.arg) else None
                if isinstance(node, ast.Name) and not isinstance(node.ctx, ast.Load):
                    name = node.id
                self.assertNotIn(name, taken, path)

    def test_statements_and_expressions(self):
        barred = (ast.Global, ast.AsyncFunctionDef, ast.Await, ast.Div, ast.Pow, ast.JoinedStr)
        for path, tree in trees():
            for node in ast.walk(tree):
                self.assertNotIsInstance(node, barred, path)
                if isinstance(node, ast.Constant):
                    self.assertNotIsInstance(node.value, float, path)
                if isinstance(node, ast.Compare) and isinstance(node.ops[0], (ast.Is, ast.IsNot)):
                    self.assertIsInstance(node.comparators[0], ast.Constant, path)

    def test_methods_are_those_of_the_rules_or_own_ones(self):
        own = [node.name for _, tree in trees() for node in ast.walk(tree) if isinstance(node, ast.FunctionDef)]
        for path, tree in trees():
            for node in ast.walk(tree):
                if isinstance(node, ast.Call) and isinstance(node.func, ast.Attribute):
                    self.assertIn(node.func.attr, METHODS + own, path)

    def test_module_level(self):
        plain = (ast.ImportFrom, ast.FunctionDef, ast.ClassDef, ast.Assign, ast.Expr)
        for path, tree in trees():
            for node in tree.body:
                self.assertIsInstance(node, plain, path)
                if isinstance(node, ast.Expr):
                    self.assertIsInstance(node.value, ast.Constant, path)
            names = top_names(tree) + [name.name for node in tree.body if isinstance(node, ast.ImportFrom)
                                       for name in node.names]
            self.assertEqual(len(names), len(set(names)), path)


def top_names(tree):
    names = [node.name for node in tree.body if isinstance(node, (ast.FunctionDef, ast.ClassDef))]
    return names + [node.targets[0].id for node in tree.body if isinstance(node, ast.Assign)]


class InterfaceTest(unittest.TestCase):

    def test_names_are_defined_in_their_own_files(self):
        listed = {
            "errors": "SettleError BadText BadLine BadNumber BadRow BadName Unlike Unbound NoName TakenName "
                      "Needed NothingToUndo NothingToRedo BadStep TooGreat",
            "terms": "size variables_of paths_of at put_at put behind renamed match Unifier Apart unify is_unify",
            "orders": "Order weight_of compare count_of place_of term_at below things_to compare_literals "
                      "compare_clauses greatest_at alone_greatest_at",
            "texts": "sentence_of sentence_text clause_text clause_of kinds order_of",
            "rules": "are_rules steps_from stepped normal holds chain_end joined Joined led_together Chained Parted "
                     "is_led",
            "ground": "decide Rules Closed is_decided is_closed named_by few",
            "structures": "Structure is_structure value_in is_true first_false members with_elements lot_of "
                          "structure_of Found NoneFound is_sought tables_of rules_of least_structure NoneUpTo",
            "sentences": "free meaning is_so plain inwards apart clauses_of Clauses order_with tables_for",
            "steps": "conclusion_of fillings_behind is_needed all_steps",
            "needless": "is_paper paper_for told_behind",
            "loop": "lines_above Loop stands cut worked open_steps open_input reopened settle Refuted Saturated "
                    "OutOfSteps",
            "judge": "is_refutation grounded ground_lines is_saturation",
            "models": "rule_at maker_of normal_by true_by rules_for all_rules",
            "theories": "Theory is_theory_right",
        }
        for stem, names in listed.items():
            defined = top_names(ast.parse((FOLDER / (stem + ".py")).read_text()))
            for name in names.split():
                self.assertIn(name, defined, stem)

    def test_methods_stand_in_their_own_class(self):
        tree = ast.parse((FOLDER / "theories.py").read_text())
        own = [node.name for node in ast.walk(tree) if isinstance(node, ast.FunctionDef)]
        for name in ("put names get grounds paper drop rename follows finding consistent parted undo redo attempt "
                     "trial").split():
            self.assertIn(name, own)


if __name__ == "__main__":
    unittest.main()
