"""More rules of the language: what names stand for, what is iterated, and what the special methods do."""

import ast
import os
import unittest

from tests.test_language import FOLDER, bound_in, called, files, read

VIEWS = {"items", "keys", "values"}
MADE = {"zip", "enumerate", "reversed", "range"}
ITERATING = {"list", "tuple", "dict", "sorted", "sum", "any", "all", "enumerate", "zip", "bytes", "min", "max"}
PLAIN = {"len", "int", "ord", "str"}


def functions_of(tree):
    """All functions and methods of a file."""
    return [node for node in ast.walk(tree) if isinstance(node, ast.FunctionDef)]


def name_of(node):
    """The name that is called, without what stands before a point."""
    if isinstance(node, ast.Call):
        return getattr(node.func, "id", getattr(node.func, "attr", None))
    return None


def is_plain_number(node):
    """Whether it is plainly a number or a string: a literal, a length, a text, or sums of these."""
    if isinstance(node, ast.BinOp):
        return is_plain_number(node.left) and is_plain_number(node.right)
    return isinstance(node, ast.Constant) or (isinstance(node.func, ast.Name) and node.func.id in PLAIN
                                              if isinstance(node, ast.Call) else False)


class TestLanguageUse(unittest.TestCase):

    def setUp(self):
        self.trees = {path: ast.parse(read(path)) for path in files()}
        self.parents = {inner: node for tree in self.trees.values() for node in ast.walk(tree)
                        for inner in ast.iter_child_nodes(node)}

    def each(self, *kinds):
        """Yield each part of these kinds, with how a fault names its place."""
        for path, tree in self.trees.items():
            for node in ast.walk(tree):
                if isinstance(node, kinds):
                    yield f"{os.path.relpath(path, FOLDER)}:{getattr(node, 'lineno', 1)}", node

    def test_l5_and_l28_what_is_not_used_beside_operators(self):
        for place, node in self.each(ast.AugAssign, ast.GeneratorExp, ast.Match, ast.Lambda, ast.NamedExpr):
            self.fail(place)

    def test_l19_what_is_caught(self):
        own = {name for path, tree in self.trees.items() if called(path) == "errors"
               for node in tree.body for name in bound_in(node)}
        for place, node in self.each(ast.Try):
            self.assertEqual((node.orelse, node.finalbody), ([], []), place)
            self.assertEqual(len(node.body), 1, place)
            for handler in node.handlers:
                self.assertIn(getattr(handler.type, "id", None), own, place)
                self.assertIsNone(handler.name, place)
        for place, node in self.each(ast.Raise):
            self.assertIsInstance(node.exc, ast.Call, place)
            self.assertIn(name_of(node.exc), own | {"TypeError"}, place)
            self.assertIsNone(node.cause, place)

    def test_l18_methods_attributes_and_properties(self):
        methods, properties, stored, read_off = set(), set(), set(), {}
        for place, node in self.each(ast.ClassDef):
            for inner in node.body:
                if isinstance(inner, ast.FunctionDef):
                    is_property = any(ast.unparse(one) == "property" for one in inner.decorator_list)
                    (properties if is_property else methods).add(inner.name)
                if isinstance(inner, ast.Assign):
                    stored.update(target.id for target in inner.targets)
            names = [inner.name for inner in node.body if isinstance(inner, ast.FunctionDef)]
            self.assertEqual(len(names), len(set(names)), place)
        for place, node in self.each(ast.Attribute):
            if isinstance(node.ctx, ast.Store):
                self.assertIsInstance(node.value, ast.Name, place)
                stored.add(node.attr)
            elif not (isinstance(self.parents[node], ast.Call) and self.parents[node].func is node):
                read_off[node.attr] = place
        self.assertEqual(methods & stored, set())
        self.assertEqual(methods & properties, set())
        self.assertEqual(properties & stored, set())
        self.assertEqual(set(read_off) - stored - properties, set(), read_off)

    def test_l15_names_of_imports_and_classes(self):
        for path, tree in self.trees.items():
            taken = {name.name for node in tree.body if isinstance(node, ast.ImportFrom) for name in node.names}
            used = {node.id for node in ast.walk(tree) if isinstance(node, ast.Name)}
            self.assertEqual(taken - used, set(), path)
            taken |= {node.name for node in tree.body if isinstance(node, ast.ClassDef)}
            for function in functions_of(tree):
                inside = {name for node in ast.walk(function) for name in bound_in(node)} - {function.name}
                self.assertEqual(inside & taken, set(), (path, function.name))

    def test_l16_no_two_files_import_from_each_other(self):
        needs = {called(path): {node.module.split(".")[-1] for node in tree.body if isinstance(node, ast.ImportFrom)}
                 for path, tree in self.trees.items()}
        while needs:
            free = [name for name in needs if not needs[name] & set(needs)]
            self.assertNotEqual(free, [], needs)
            needs = {name: needs[name] for name in needs if name not in free}

    def test_l16_names_come_from_where_they_are_defined(self):
        defined = {called(path): {name for node in tree.body if not isinstance(node, ast.ImportFrom)
                                  for inner in [node] + list(getattr(node, "targets", []))
                                  for name in bound_in(inner)}
                   for path, tree in self.trees.items()}
        for place, node in self.each(ast.ImportFrom):
            for name in node.names:
                self.assertIn(name.name, defined[node.module.split(".")[-1]], place)

    def test_l23_what_is_iterated_at_once(self):
        for place, node in self.each(ast.Call):
            is_view = isinstance(node.func, ast.Attribute) and node.func.attr in VIEWS
            is_made = isinstance(node.func, ast.Name) and node.func.id in MADE
            if (is_view or is_made) and not self.is_kept_range(node):
                self.assertTrue(self.is_iterated(node), place)

    def is_kept_range(self, node):
        """Whether it is a range that a local variable keeps."""
        return node.func.id == "range" and isinstance(self.parents[node], ast.Assign) \
            if isinstance(node.func, ast.Name) else False

    def is_iterated(self, node):
        """Whether a loop, a comprehension or a builtin goes over it."""
        parent = self.parents[node]
        if isinstance(parent, (ast.For, ast.comprehension)):
            return parent.iter is node
        return name_of(parent) in ITERATING and node in parent.args

    def test_l23_generators(self):
        generators = {function.name for tree in self.trees.values() for function in functions_of(tree)
                      if any(isinstance(node, (ast.Yield, ast.YieldFrom)) for node in ast.walk(function))}
        self.assertEqual(generators, {"numerals_from", "attempts", "patterns", "weavings_of"})
        names = [function.name for tree in self.trees.values() for function in functions_of(tree)]
        for name in generators:
            self.assertEqual(names.count(name), 1)
        for place, node in self.each(ast.Call):
            if name_of(node) in generators:
                self.assertTrue(self.is_iterated(node), place)
        for place, node in self.each(ast.Yield):
            self.assertIsInstance(self.parents[node], ast.Expr, place)

    def test_l5_sorted_min_and_max_take_what_is_plain(self):
        for place, node in self.each(ast.Call):
            if isinstance(node.func, ast.Name) and node.func.id in ("sorted", "min", "max"):
                first = node.args[0]
                is_plain = any(is_plain_number(one) for one in node.args)
                is_plain = is_plain or isinstance(first, ast.ListComp) and is_plain_number(first.elt)
                is_plain = is_plain or name_of(first) in ("range", "set")
                self.assertTrue(is_plain, place)

    def test_l7_any_all_and_sum_take_lists(self):
        for place, node in self.each(ast.Call):
            if isinstance(node.func, ast.Name) and node.func.id in ("any", "all", "sum"):
                is_counted = name_of(node.args[0]) == "how_many"
                self.assertTrue(isinstance(node.args[0], ast.ListComp) or is_counted, place)

    def test_l24_sets(self):
        for place, node in self.each(ast.Set, ast.SetComp, ast.Call):
            if not isinstance(node, ast.Call) or name_of(node) == "set":
                self.assertIn(name_of(self.parents[node]), ("sorted", "len"), place)

    def test_l28_returns_of_special_methods(self):
        for place, node in self.each(ast.FunctionDef):
            returns = [inner for inner in ast.walk(node) if isinstance(inner, ast.Return)]
            if node.name in ("__init__", "__exit__"):
                self.assertEqual(returns, [], place)
            if node.name == "__len__":
                self.assertEqual([name_of(one.value) for one in returns], ["len"], place)
            if node.name in ("__eq__", "__len__", "__str__"):
                for inner in ast.walk(node):
                    self.assertNotIsInstance(inner, (ast.Assign, ast.Delete, ast.For), place)

    def test_l6_rows_of_exit(self):
        for place, node in self.each(ast.FunctionDef):
            if node.name == "__exit__":
                self.assertEqual([one.arg for one in node.args.args], ["self", "kind", "value", "trace"], place)
                rows = [row for outer in node.body for row in (outer.body if isinstance(outer, ast.If) else [outer])]
                tests = [ast.unparse(row.test) for row in node.body if isinstance(row, ast.If)]
                self.assertEqual([test for test in tests if test not in ("kind is None", "kind is not None")], [], place)
                for row in rows:
                    self.assertIsInstance(row, ast.Assign, place)
                    self.assertIsInstance(row.value, ast.Attribute, place)

    def test_l5_objects_with_items_say_that_they_are_not_iterated(self):
        for place, node in self.each(ast.ClassDef):
            names = [inner.name for inner in node.body if isinstance(inner, ast.FunctionDef)]
            if "__getitem__" in names:
                self.assertIn("__iter__", names, place)


if __name__ == "__main__":
    unittest.main()
