"""The form of the package's files: the limits of ../shared/LANGUAGE.md that are mere numbers."""

import ast
import pathlib
import unittest

PACKAGE = pathlib.Path(__file__).resolve().parent.parent / "leafsplits"
INTERFACE = {
    "rules": {"Rule": ["leaf", "leaf_stays", "leaf_goes", "inner", "inner_stays", "inner_goes"]},
    "indexes": {"PageIndex": ["rule", "levels", "entries", "height", "pages", "size", "above", "child", "span", "path"],
                "new_index": ["rule"]},
    "runs": {"run": ["index", "kind", "gap", "number"], "dropped": ["index", "first", "last"],
             "played": ["index", "script"]},
    "moments": {"splits": ["index", "kind", "gap", "number", "level"],
                "split_moment": ["index", "kind", "gap", "level", "count"],
                "split_levels": ["index", "kind", "gap", "insert"]},
    "loads": {"loaded": ["rule", "kind", "number"], "load_pages": ["rule", "kind", "number", "level"],
              "load_height": ["rule", "kind", "number"], "first_height": ["rule", "kind", "height"],
              "first_more": ["rule", "second", "kind", "level"]},
    "parting": {"unlike_page": ["index", "second"], "parting_run": ["index", "second"]},
    "inserts": {"fewest_leaves": ["index", "number"], "most_leaves": ["index", "number"],
                "sure_from": ["index", "leaves"], "possible_from": ["index", "leaves"],
                "leaves_script": ["index", "number", "leaves"]},
    "ranges": {"touched": ["index", "level", "first", "last"], "touched_in_all": ["index", "level", "length"],
               "mean_touched": ["index", "level", "length"]},
    "orders": {"least_order": ["index", "runs", "level"], "most_order": ["index", "runs", "level"],
               "commute": ["index", "one", "other"]},
    "fitting": {"fitting_rules": ["kind", "seen", "most"]},
    "texts": {"show_rule": ["rule"], "show_index": ["index"], "read_rule": ["text"], "read_index": ["text"]},
    "live": {"LiveIndex": ["present", "run", "drop", "undo", "log", "all_pages", "preview", "__eq__"],
             "BudgetIndex": ["budget"]},
    "console": {"Console": ["execute"]},
}
LIBRARY = ("heapq", "math", "itertools", "collections")


class FormTest(unittest.TestCase):
    def setUp(self):
        self.texts = {path.name: path.read_text("ascii") for path in sorted(PACKAGE.glob("*.py"))}

    def test_there_are_files(self):
        self.assertIn("__init__.py", self.texts)
        self.assertGreater(len(self.texts), 1)

    def test_lines(self):
        for name, text in self.texts.items():
            lines = text.split("\n")
            self.assertLessEqual(len(lines), 399, name)
            for line in lines:
                self.assertLessEqual(len(line), 120, name)
                self.assertTrue(all(" " <= sign <= "~" for sign in line), name)
                self.assertEqual(line, line.rstrip(), name)

    def test_functions(self):
        for name, text in self.texts.items():
            for node in ast.walk(ast.parse(text)):
                if isinstance(node, ast.FunctionDef):
                    lines = node.end_lineno - node.lineno + 1
                    self.assertLessEqual(lines, 40, (name, node.name))

    def test_interface(self):
        for name, listed in INTERFACE.items():
            body = ast.parse(self.texts[f"{name}.py"]).body
            defined = {node.name: node for node in body if isinstance(node, (ast.FunctionDef, ast.ClassDef))}
            for word, parts in listed.items():
                node = defined[word]
                if isinstance(node, ast.FunctionDef):
                    self.assertEqual([argument.arg for argument in node.args.args], parts, (name, word))
                else:
                    self.assertLessEqual(set(parts), {part.name for part in node.body
                                                      if isinstance(part, ast.FunctionDef)}, (name, word))

    def test_imports(self):
        for name, text in self.texts.items():
            for node in ast.walk(ast.parse(text)):
                self.assertNotIsInstance(node, ast.Import, name)
                if isinstance(node, ast.ImportFrom):
                    self.assertEqual(node.level, 0, name)
                    head, _, file = node.module.partition(".")
                    if head == "leafsplits":
                        self.assertIn(f"{file}.py", self.texts)
                    else:
                        self.assertIn(node.module, LIBRARY, name)


if __name__ == "__main__":
    unittest.main()
