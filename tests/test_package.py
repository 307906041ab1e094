import ast
import doctest
import inspect
import unittest
from pathlib import Path

from widerkeys import (
    desk,
    errors,
    journals,
    judging,
    kinds,
    marks,
    orders,
    returns,
    runs,
    steps,
    texts,
    trials,
    windows,
    worlds,
    writers,
    yard,
)

from players import SHOP

ROOT = Path(__file__).resolve().parent.parent
FILES = sorted((ROOT / "widerkeys").rglob("*.py"))

# The library that rule L2 allows beside the package itself.
LIBRARY = ("heapq", "math", "itertools", "collections")


def rows_of_exits(tree):
    """All that stands in the rows of methods `__exit__` and of `finally`."""
    for node in ast.walk(tree):
        rows = node.body if isinstance(node, ast.FunctionDef) and node.name == "__exit__" else []
        for row in rows + getattr(node, "finalbody", []):
            yield from ast.walk(row)


def asks_for_none_alone(test):
    """Whether a test asks of names and attributes whether they are None, and nothing else."""
    if isinstance(test, ast.BoolOp):
        return all(asks_for_none_alone(part) for part in test.values)
    if isinstance(test, ast.UnaryOp):
        return isinstance(test.op, ast.Not) and asks_for_none_alone(test.operand)
    return (
        isinstance(test, ast.Compare)
        and isinstance(test.left, (ast.Name, ast.Attribute))
        and [type(sign) for sign in test.ops] in ([ast.Is], [ast.IsNot])
        and isinstance(test.comparators[0], ast.Constant)
        and test.comparators[0].value is None
    )


class InterfaceTest(unittest.TestCase):
    def test_functions_and_classes_stand_in_their_files(self):
        for module, names in (
            (errors, ("WidthError",)),
            (kinds, ("Kind",)),
            (windows, ("alike", "ordered")),
            (worlds, ("World",)),
            (steps, ("is_step", "moments")),
            (runs, ("shows_wrong",)),
            (marks, ("is_mark", "within")),
            (judging, ("judged", "shows_safe", "readings", "furthest")),
            (orders, ("cheapest", "shows_cheapest", "order_with", "musts")),
            (returns, ("ways_back", "no_return")),
            (writers, ("fewest",)),
            (texts, ("show_plan", "read_plan", "show_run", "read_run", "show_world", "read_world")),
            (yard, ("Yard",)),
            (trials, ("Trial",)),
            (journals, ("read_journal",)),
            (desk, ("Desk",)),
        ):
            for name in names:
                self.assertEqual(getattr(module, name).__module__, module.__name__)

    def test_methods_stand_in_the_class_itself(self):
        for name in ("cut", "signed", "unsigned", "digits", "read"):
            self.assertIn(name, vars(kinds.Kind))

        for name in ("do", "wrongs", "events", "many", "late", "mark", "cells", "moment", "back"):
            self.assertIn(name, vars(yard.Yard))
        for name in ("copy", "trial", "tried", "journal", "__contains__", "__getitem__", "__setitem__", "__eq__"):
            self.assertIn(name, vars(yard.Yard))
        self.assertIn("say", vars(desk.Desk))

    def test_attributes_are_set_when_an_object_is_created(self):
        kind = kinds.Kind(-5, 5)
        self.assertEqual([hasattr(kind, name) for name in ("low", "high", "size")], [True] * 3)
        self.assertEqual([hasattr(SHOP, name) for name in ("narrow", "wide", "columns", "programs")], [True] * 4)
        found = yard.Yard(SHOP, (1, 200))
        self.assertEqual([found.wrongs, found.events, found.many, found.cells], [(), (), 0, ()])
        self.assertEqual((len(found.moment), found.journal[:6]), (5, "narrow"))
        self.assertEqual(desk.Desk(found.journal).yard, found)

    def test_names_of_parameters(self):
        wanted = {
            kinds.Kind: ["low", "high"],
            kinds.Kind.signed: ["bits"],
            kinds.Kind.unsigned: ["bits"],
            kinds.Kind.digits: ["many"],
            kinds.Kind.read: ["text"],
            kinds.Kind(0, 1).cut: ["number"],
            windows.alike: ["kind", "one", "other"],
            windows.ordered: ["kind", "one", "other"],
            worlds.World: ["narrow", "wide", "columns", "programs"],
            steps.is_step: ["world", "value"],
            steps.moments: ["world", "span", "plan"],
            runs.shows_wrong: ["world", "span", "plan", "value"],
            marks.is_mark: ["world", "value"],
            marks.within: ["world", "one", "other"],
            judging.judged: ["world", "span", "plan"],
            judging.shows_safe: ["world", "span", "plan", "value"],
            judging.readings: ["world", "span", "plan"],
            judging.furthest: ["world", "span", "plan", "index"],
            orders.cheapest: ["task"],
            orders.shows_cheapest: ["task", "value"],
            orders.order_with: ["task", "one", "other"],
            orders.musts: ["task"],
            returns.ways_back: ["world", "span", "plan", "backs"],
            returns.no_return: ["world", "span", "plan", "backs"],
            writers.fewest: ["task", "rows"],
            texts.show_plan: ["plan"],
            texts.read_plan: ["text"],
            texts.show_run: ["run"],
            texts.read_run: ["text"],
            texts.show_world: ["world"],
            texts.read_world: ["text"],
            yard.Yard: ["world", "span"],
            yard.Yard.do: ["self", "event"],
            yard.Yard.late: ["self", "cell"],
            yard.Yard.mark: ["self", "cell"],
            yard.Yard.back: ["self"],
            yard.Yard.copy: ["self"],
            yard.Yard.trial: ["self", "keep"],
            yard.Yard.tried: ["self", "look", "keep"],
            journals.read_journal: ["text"],
            desk.Desk: ["text"],
            desk.Desk.say: ["self", "line"],
        }
        for told, names in wanted.items():
            self.assertEqual(list(inspect.signature(told).parameters), names)


class ReadmeTest(unittest.TestCase):
    def test_its_examples(self):
        told = doctest.testfile(str(ROOT / "README.md"), module_relative=False)
        self.assertEqual(told.failed, 0)
        self.assertGreater(told.attempted, 0)


class LanguageTest(unittest.TestCase):
    """The rules of the language that are plain to see: L1, L2, L6, L10, L14, L16."""

    def test_the_package_holds_nothing_but_python(self):
        for path in (ROOT / "widerkeys").rglob("*"):
            if "__pycache__" not in path.parts and not path.is_dir():
                self.assertEqual(path.suffix, ".py", path)

    def test_characters_and_lengths(self):
        for path in FILES:
            lines = path.read_text(encoding="utf-8").split("\n")
            self.assertLessEqual(len(lines), 400, path)
            for line in lines:
                self.assertLessEqual(len(line), 120, path)
                self.assertTrue(all(" " <= sign <= "~" for sign in line), path)

    def test_functions_are_short(self):
        for path in FILES:
            for node in ast.walk(ast.parse(path.read_text())):
                if isinstance(node, ast.FunctionDef):
                    self.assertLessEqual(node.end_lineno - node.lineno + 1, 40, (path, node.name))

    def test_exits_ask_for_none_alone(self):
        for path in FILES:
            for node in rows_of_exits(ast.parse(path.read_text())):
                self.assertNotIsInstance(node, (ast.IfExp, ast.While, ast.Assert), path)
                if isinstance(node, ast.If):
                    self.assertTrue(asks_for_none_alone(node.test), (path, ast.unparse(node.test)))

    def test_what_exits_may_ask(self):
        for text, wanted in (
            ("kind is not None or self.keeps is None", True),
            ("not (kind is None and held.many is not None)", True),
            ("kind is not None or not self.keeps", False),
            ("self.keeps", False),
            ("kind", False),
            ("self.keeps is True", False),
            ("self.keeps == None", False),
            ("self.keeps is kind", False),
            ("rows[0] is None", False),
            ("len(rows) is None", False),
            ("kind is None is None", False),
        ):
            self.assertEqual(asks_for_none_alone(ast.parse(text, mode="eval").body), wanted, text)

    def test_imports_come_from_the_package(self):
        for path in FILES:
            for node in ast.walk(ast.parse(path.read_text())):
                self.assertNotIsInstance(node, ast.Import, path)
                if isinstance(node, ast.ImportFrom):
                    self.assertEqual(node.level, 0, path)
                    allowed = node.module in LIBRARY or node.module.startswith("widerkeys.")
                    self.assertTrue(allowed, (path, node.module))


if __name__ == "__main__":
    unittest.main()
