import ast
import builtins
import inspect
import pathlib
import unittest

import closedroads
from closedroads import console, desks, webs
from closedroads.console import Console
from closedroads.desks import Desk
from closedroads.errors import NotAWeb, UnknownRoad
from closedroads.webs import Web, need_index, need_web
from tests.samples import Agreeing, Touchy, cross, odd_values, twins

FOLDER = pathlib.Path(closedroads.__file__).parent


class Interface(unittest.TestCase):
    def test_web_is_defined_in_its_file(self):
        self.assertEqual(Web.__module__, "closedroads.webs")
        self.assertIn("class Web", inspect.getsource(webs))

    def test_methods_are_defined_in_the_class_itself(self):
        names = ["told", "origin", "goal", "roads", "places", "__len__", "__str__", "__eq__"]
        for name in names + ["costing", "closed", "turned", "widened"]:
            self.assertIn(name, vars(Web))
        self.assertIsInstance(vars(Web)["told"], classmethod)
        for name in ("origin", "goal", "roads", "places"):
            self.assertIsInstance(vars(Web)[name], property)

    def test_names_of_parameters(self):
        shapes = {
            Web: "(origin, goal, roads)",
            Web.told: "(text)",
            Web.costing: "(self, index, base, rise)",
            Web.closed: "(self, indexes)",
            Web.turned: "(self)",
            Web.widened: "(self, road)",
        }
        for told, shape in shapes.items():
            self.assertEqual(str(inspect.signature(told)), shape)


class DeskAndConsole(unittest.TestCase):
    def test_they_are_defined_in_their_files(self):
        for kind, file in ((Desk, desks), (Console, console)):
            self.assertEqual(kind.__module__, file.__name__)
            self.assertIn("class " + kind.__name__ + ":", inspect.getsource(file))

    def test_methods_are_defined_in_the_class_itself(self):
        for name in ("cost", "close", "widen", "flow", "promise", "lift", "undo", "trial", "tried", "__eq__"):
            self.assertTrue(inspect.isfunction(vars(Desk)[name]), name)
        for name in ("web", "amount", "promises", "changes"):
            self.assertIsInstance(vars(Desk)[name], property)
        self.assertTrue(inspect.isfunction(vars(Console)["say"]))
        self.assertIsInstance(vars(Console)["desk"], property)

    def test_names_of_parameters(self):
        shapes = {
            Desk: "(web, amount)", Desk.cost: "(self, index, base, rise)", Desk.close: "(self, index)",
            Desk.widen: "(self, road)", Desk.flow: "(self, amount)", Desk.promise: "(self, wish)",
            Desk.lift: "(self, index)", Desk.undo: "(self)", Desk.trial: "(self)", Desk.tried: "(self, action)",
            Console: "(web, amount)", Console.say: "(self, command)",
        }
        for told, shape in shapes.items():
            self.assertEqual(str(inspect.signature(told)), shape)


class Parameters(unittest.TestCase):
    """What the parameters `web` and `index` raise wherever they stand."""

    def test_what_is_no_web(self):
        for value in odd_values() + ["a b\na b 0 1", (), ("a", "b", (("a", "b", 0, 1),))]:
            if type(value) is not Web:
                with self.assertRaises(NotAWeb) as caught:
                    need_web(value)
                self.assertIs(caught.exception.given, value)

    def test_what_is_a_web(self):
        for web in (cross(), twins(), twins().closed((0,))):
            self.assertIsNone(need_web(web))

    def test_what_is_no_index_of_a_road(self):
        for value in odd_values() + [5, 6, 8, "1", (0,), (), [0], b"\x00", Touchy(), Agreeing()]:
            with self.assertRaises(UnknownRoad) as caught:
                need_index(cross(), value)
            self.assertIs(caught.exception.given, value)

    def test_what_is_an_index_of_a_road(self):
        for index in range(5):
            self.assertIsNone(need_index(cross(), index))


class Sources(unittest.TestCase):
    """The rules of the language that are told in numbers."""

    def test_sizes_and_characters(self):
        for path in sorted(FOLDER.rglob("*.py")):
            with self.subTest(path.name):
                text = path.read_text(encoding="utf-8")
                lines = text.split("\n")
                self.assertLessEqual(len(lines), 400)
                self.assertLessEqual(max(map(len, lines)), 120)
                self.assertTrue(all(sign == "\n" or " " <= sign <= "~" for sign in text))
                for node in ast.walk(ast.parse(text)):
                    if isinstance(node, ast.FunctionDef):
                        self.assertLessEqual(node.end_lineno - node.lineno + 1, 40, node.name)

    def test_no_generator_expressions_floats_or_quotients(self):
        for path in sorted(FOLDER.rglob("*.py")):
            for node in ast.walk(ast.parse(path.read_text(encoding="utf-8"))):
                self.assertNotIsInstance(node, (ast.GeneratorExp, ast.Div), path.name)
                self.assertFalse(isinstance(node, ast.Constant) and isinstance(node.value, float), path.name)

    def test_no_name_has_two_meanings(self):
        for path in sorted(FOLDER.rglob("*.py")):
            tree = ast.parse(path.read_text(encoding="utf-8"))
            nodes = list(ast.walk(tree))
            barred = set(dir(builtins))
            for node in nodes:
                if isinstance(node, ast.ImportFrom):
                    barred.update(alias.name for alias in node.names)
                if isinstance(node, ast.ClassDef):
                    barred.add(node.name)
            given = [node.id for node in nodes if isinstance(node, ast.Name) and not isinstance(node.ctx, ast.Load)]
            given += [node.arg for node in nodes if isinstance(node, ast.arg)]
            given += [node.name for node in nodes if isinstance(node, ast.FunctionDef)]
            self.assertEqual([name for name in given if name in barred], [], path.name)

    def test_no_outside_package_is_imported(self):
        known = ("closedroads", "heapq", "math", "itertools", "collections")
        for path in sorted(FOLDER.rglob("*.py")):
            for node in ast.walk(ast.parse(path.read_text(encoding="utf-8"))):
                self.assertNotIsInstance(node, ast.Import, path.name)
                if isinstance(node, ast.ImportFrom):
                    self.assertIn(node.module.split(".")[0], known, path.name)


if __name__ == "__main__":
    unittest.main()
