import unittest

from leastcode.errors import BadName, BadSum, BadWork, TooMany, Twice
from leastcode.sums import Sum
from leastcode.works import Let, Tell, Work
from helping import ODD_VALUES, check_raises, check_same


class Tells(unittest.TestCase):
    def test_names(self):
        for names in (("a",), ("b", "a"), ("c", "a", "b"), ("abcdef", "tell", "z")):
            line = Tell(*names)
            check_same(self, line.names, names)
            check_same(self, line.uses, names)
            self.assertIs(line.makes, None)
            self.assertEqual(str(line), "tell " + " ".join(names))

    def test_each_error(self):
        for value in ODD_VALUES:
            check_raises(self, BadName(value), Tell, value)
            check_raises(self, BadName(value), Tell, "a", "b", value)
        check_raises(self, BadName(Sum), Tell, Sum)
        check_raises(self, Twice("a"), Tell, "a", "a")
        check_raises(self, Twice("a"), Tell, "b", "a", "a")
        check_raises(self, TooMany(3), Tell, "a", "b", "c", "d")
        check_raises(self, BadWork(None), Tell)

    def test_order_of_errors(self):
        check_raises(self, BadName("A"), Tell, "a", "a", "A", "B")
        check_raises(self, BadName(5), Tell, "a", "b", "c", "d", 5)
        check_raises(self, Twice("b"), Tell, "a", "b", "b", "a")
        check_raises(self, Twice("a"), Tell, "a", "b", "c", "d", "a")
        check_raises(self, Twice("a"), Tell, "b", "a", "c", "a", "b")

    def test_equality(self):
        self.assertIs(Tell("a", "b") == Tell("a", "b"), True)
        self.assertIs(Tell("a", "b") != Tell("a", "b"), False)
        for other in (Tell("b", "a"), Tell("a"), Let("a", Sum((1, ("b",)))), Sum((1, ("a",))), *ODD_VALUES,
                      ("a", "b"), "tell a b", Work([], [])):
            self.assertIs(Tell("a", "b") == other, False)
            self.assertIs(Tell("a", "b") != other, True)
            self.assertIs(other == Tell("a", "b"), False)
            self.assertIs(other != Tell("a", "b"), True)


class Lets(unittest.TestCase):
    def test_parts(self):
        value = Sum((2, ("b", "a")), (-1, ("c",)), (1, ("a",)))
        for line in (Let("x", value), Let(name="x", value=value), Let(value=value, name="x")):
            self.assertEqual(line.name, "x")
            self.assertEqual(line.makes, "x")
            self.assertTrue(line.value == value)
            check_same(self, line.uses, ("b", "a", "c"))
            self.assertEqual(str(line), "x = 2 * b * a - c + a")

    def test_nothing_used_and_itself_used(self):
        check_same(self, Let("x", Sum((5, ()))).uses, ())
        check_same(self, Let("x", Sum((0, ("x",)))).uses, ("x",))
        self.assertEqual(str(Let("tell", Sum((0, ("tell",))))), "tell = 0 * tell")

    def test_each_error(self):
        value = Sum((1, ("a",)))
        for name in ODD_VALUES:
            check_raises(self, BadName(name), Let, name, value)
            check_raises(self, BadName(name), Let, name=name, value=value)
        for other in ODD_VALUES + ["a", (1, ("a",)), Tell("a"), Let("a", value)]:
            check_raises(self, BadSum(None), Let, "x", other)

    def test_order_of_errors(self):
        check_raises(self, BadName("X"), Let, "X", None)
        check_raises(self, BadName(None), Let, None, "a")

    def test_equality(self):
        line = Let("x", Sum((1, ("a",))))
        self.assertIs(line == Let("x", Sum([1, ["a"]])), True)
        self.assertIs(line != Let("x", Sum([1, ["a"]])), False)
        for other in (Let("y", Sum((1, ("a",)))), Let("x", Sum((2, ("a",)))), Tell("a"), Tell("x"), Sum((1, ("a",))),
                      *ODD_VALUES, "x = a"):
            self.assertIs(line == other, False)
            self.assertIs(line != other, True)
            self.assertIs(other == line, False)
            self.assertIs(other != line, True)


class NeverChanged(unittest.TestCase):
    def test_parts_are_not_assigned(self):
        value = Sum((1, ("a",)))
        for line, names in ((Tell("a", "b"), ("names", "uses", "makes")), (Let("x", value), ("uses", "makes"))):
            text = str(line)
            for name in names:
                before = getattr(line, name)
                for other in ("b", ("b",), Sum((2, ())), before):
                    with self.assertRaises(AttributeError):
                        setattr(line, name, other)
                self.assertIs(getattr(line, name), before)
            self.assertEqual(str(line), text)

    def test_errors_keep_attributes_of_the_same_names(self):
        line = Let("x", Sum((1, ("a",))))
        for error in (BadName("x"), BadSum(None), Twice("x"), BadWork(line)):
            for name in vars(error):
                setattr(error, name, line)
                self.assertIs(getattr(error, name), line)
        self.assertEqual((line.name, str(line.value)), ("x", "a"))


class Interface(unittest.TestCase):
    def test_name_and_value_can_be_read(self):
        value = Sum((1, ("a",)))
        line = Let(name="x", value=value)
        self.assertEqual(line.name, "x")
        self.assertIs(line.value, value)

    def test_names_stand_in_the_classes(self):
        for made, names in ((Tell, ("uses", "makes", "names")), (Let, ("uses", "makes"))):
            self.assertEqual(made.__module__, "leastcode.works")
            for name in names:
                self.assertIsInstance(vars(made)[name], property)
            for name in ("__eq__", "__str__"):
                self.assertTrue(callable(vars(made)[name]))


if __name__ == "__main__":
    unittest.main()
