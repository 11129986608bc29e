"""Point 10: writing trees."""

import unittest

from deedstore.trees import write_tree
from tests.helpers import nested


class WriteTreeTest(unittest.TestCase):
    def check(self, tree, text):
        self.assertEqual(write_tree(tree), text)

    def test_example_of_the_document(self):
        self.check(("a", (1, -2, None), True), '("a" (1 -2 -) yes)')

    def test_by_name(self):
        self.assertEqual(write_tree(tree=(1,)), "(1)")

    def test_tuples(self):
        self.check((), "()")
        self.check(((),), "(())")
        self.check(((), ()), "(() ())")
        self.check((1,), "(1)")
        self.check((1, 2, 3), "(1 2 3)")
        self.check(((1, (2, ())), 3), "((1 (2 ())) 3)")
        self.check((((), 1), (2, ((3,),))), "((() 1) (2 ((3))))")

    def test_strings(self):
        self.check("", '""')
        self.check("a", '"a"')
        self.check(" ", '" "')
        self.check("a  b ", '"a  b "')
        self.check("()", '"()"')
        self.check("yes", '"yes"')
        self.check("-", '"-"')
        self.check("12", '"12"')
        self.check(("", "") , '("" "")')

    def test_strings_with_quotes_and_backslashes(self):
        self.check('"', '"\\""')
        self.check("\\", '"\\\\"')
        self.check('\\"', '"\\\\\\""')
        self.check('"\\', '"\\"\\\\"')
        self.check("\\\\", '"\\\\\\\\"')
        self.check("\\n", '"\\\\n"')
        self.check("'", "\"'\"")
        self.check('a"b\\c', '"a\\"b\\\\c"')

    def test_every_character(self):
        for code in range(32, 127):
            sign = chr(code)
            if sign not in '%"\\':
                self.check(sign, '"' + sign + '"')

    def test_integers(self):
        self.check(0, "0")
        self.check(7, "7")
        self.check(-7, "-7")
        self.check(10, "10")
        self.check(-100, "-100")
        self.check((0, -1, 1), "(0 -1 1)")

    def test_long_integers(self):
        for digits in (9, 63, 64, 65, 99, 100, 127, 128, 129, 192, 193):
            for text in ("1" + "0" * (digits - 1), "9" * digits, "7" + "0" * (digits - 2) + "1"):
                self.check(int(text), text)
                self.check(-int(text), "-" + text)

    def test_integers_of_thousands_of_digits(self):
        # Python's own conversions refuse these.
        self.check(10 ** 5000, "1" + "0" * 5000)
        self.check(10 ** 5000 - 1, "9" * 5000)
        self.check((-(10 ** 9000),), "(-1" + "0" * 9000 + ")")

    def test_none_and_bools(self):
        self.check(None, "-")
        self.check(True, "yes")
        self.check(False, "no")
        self.check((None, None), "(- -)")
        self.check((True, 1, False, 0), "(yes 1 no 0)")
        self.check((1, True, 0, False), "(1 yes 0 no)")

    def test_no_bounds_of_parts_and_depth(self):
        self.check(nested(29), "(" * 30 + ")" * 30)
        self.check(nested(40), "(" * 41 + ")" * 41)
        self.check(nested(5000, "a"), "(" * 5000 + '"a"' + ")" * 5000)
        self.check((0,) * 5000, "(" + " ".join(["0"] * 5000) + ")")

    def test_the_tree_is_not_changed(self):
        inner = ["kept"]
        tree = (1, ("a", None))
        inner.append(tree)
        write_tree(tree)
        self.assertEqual(inner, ["kept", (1, ("a", None))])


if __name__ == "__main__":
    unittest.main()
