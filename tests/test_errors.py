import unittest

from closedroads import errors
from tests.samples import odd_values

BASES = {"WrongValue": ValueError, "WrongName": LookupError, "NotPossible": ArithmeticError}

# Each class with its base class and its attribute, as the document lists them.
CLASSES = [
    ("InvalidText", "WrongValue", "given"),
    ("InvalidPlace", "WrongValue", "given"),
    ("InvalidCost", "WrongValue", "given"),
    ("InvalidWay", "WrongValue", "given"),
    ("InvalidAmount", "WrongValue", "given"),
    ("InvalidNumber", "WrongValue", "given"),
    ("InvalidWish", "WrongValue", "given"),
    ("InvalidCommand", "WrongValue", "given"),
    ("NotAWeb", "WrongValue", "given"),
    ("InvalidRoads", "WrongValue", "index"),
    ("InvalidLoads", "WrongValue", "index"),
    ("InvalidIndexes", "WrongValue", "index"),
    ("UnknownRoad", "WrongName", "given"),
    ("NothingToUndo", "NotPossible", None),
    ("TooMany", "NotPossible", "given"),
    ("NoWay", "NotPossible", None),
    ("Broken", "NotPossible", "index"),
]


def own_classes(kind):
    """The classes of the package under which a class is, itself included."""
    return [one for one in kind.__mro__ if one.__module__.split(".")[0] == "closedroads"]


class BaseClasses(unittest.TestCase):
    def test_made_of_nothing(self):
        for name, above in BASES.items():
            with self.subTest(name):
                error = getattr(errors, name)()
                self.assertIsInstance(error, above)
                self.assertEqual(vars(error), {})

    def test_each_is_under_one_class_of_python(self):
        for name, above in BASES.items():
            with self.subTest(name):
                kind = getattr(errors, name)
                self.assertEqual(kind.__bases__, (above,))
                self.assertEqual(own_classes(kind), [kind])


class ErrorClasses(unittest.TestCase):
    def test_there_are_no_others(self):
        names = [name for name, one in vars(errors).items() if isinstance(one, type)]
        self.assertEqual(sorted(names), sorted([*BASES, *[name for name, _, _ in CLASSES]]))

    def test_under_one_base_class_and_no_other(self):
        for name, base, _ in CLASSES:
            with self.subTest(name):
                kind, above = getattr(errors, name), getattr(errors, base)
                self.assertEqual(kind.__module__, "closedroads.errors")
                self.assertEqual(kind.__bases__, (above,))
                self.assertEqual(own_classes(kind), [kind, above])
                self.assertTrue(issubclass(kind, BASES[base]))
                for other in BASES.values():
                    self.assertEqual(issubclass(kind, other), other is BASES[base])

    def test_made_by_position_and_by_name(self):
        for name, _, attribute in CLASSES:
            if attribute is None:
                continue
            kind = getattr(errors, name)
            for value in odd_values():
                with self.subTest(name, value=type(value)):
                    told = kind(value)
                    self.assertEqual(list(vars(told)), [attribute])
                    self.assertIs(getattr(told, attribute), value)
                    named = kind(**{attribute: value})
                    self.assertEqual(list(vars(named)), [attribute])
                    self.assertIs(getattr(named, attribute), value)

    def test_the_attribute_must_be_told(self):
        for name, _, attribute in CLASSES:
            if attribute is not None:
                self.assertRaises(TypeError, getattr(errors, name))

    def test_made_of_nothing(self):
        for name in ("NothingToUndo", "NoWay"):
            self.assertEqual(vars(getattr(errors, name)()), {})

    def test_caught_under_their_base_classes(self):
        for name, base, attribute in CLASSES:
            with self.subTest(name):
                kind = getattr(errors, name)
                for above in (kind, getattr(errors, base), BASES[base]):
                    with self.assertRaises(above):
                        raise kind() if attribute is None else kind(0)

    def test_true_and_equal_to_themselves_alone(self):
        for name, _, attribute in CLASSES:
            with self.subTest(name):
                kind = getattr(errors, name)
                one, other = [kind() if attribute is None else kind(0) for _ in range(2)]
                self.assertTrue(one)
                self.assertTrue(one == one)
                self.assertFalse(one == other)
                self.assertTrue(one != other)


if __name__ == "__main__":
    unittest.main()
