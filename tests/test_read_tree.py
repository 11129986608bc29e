"""Point 10, with the bounds of point 2: reading trees."""

import re
import time
import unittest

from deedstore.errors import NoText
from deedstore.trees import read_tree, write_tree
from tests.helpers import nested, same

TREES = [
    (),
    ((),),
    ((), ()),
    (((), 1), (2, ((3,),))),
    "",
    " ",
    '"',
    "\\",
    'a"b\\c "" \\\\',
    "(1 2)",
    "yes",
    0,
    5,
    -5,
    10,
    int("7" * 100),
    -int("1" + "0" * 99),
    None,
    True,
    False,
    (True, 1, False, 0),
    (1, True, 0, False),
    (None, -1, None),
    ("a", (1, -2, None), True),
    ("op", "and", ("col", "a"), ("value", False)),
    "".join(chr(code) for code in range(32, 127) if code != 37),
]


class ReadTest(unittest.TestCase):
    def reads(self, text, tree):
        found = read_tree(text)
        self.assertTrue(same(found, tree), (text[:200], found))

    def fails(self, text, index):
        with self.assertRaises(NoText) as caught:
            read_tree(text)
        self.assertEqual(caught.exception.index, index, repr(text)[:200])


class ReadTreeTest(ReadTest):
    def test_examples_of_the_document(self):
        self.reads('(() "a")', ((), "a"))
        self.fails("(1  2)", 3)
        self.fails("(01)", 2)

    def test_by_name(self):
        self.assertEqual(read_tree(text="(1)"), (1,))

    def test_what_was_written_comes_back(self):
        for tree in TREES + [tuple(TREES)]:
            self.reads(write_tree(tree), tree)

    def test_only_strings_have_trees(self):
        for value in (None, 0, 1, True, False, (), ("()",), [], ["(", ")"], {}, b"()", 10 ** 99):
            with self.assertRaises(NoText) as caught:
                read_tree(value)
            self.assertEqual(caught.exception.index, 0)

    def test_leaves(self):
        self.reads("-", None)
        self.reads("yes", True)
        self.reads("no", False)
        self.reads("0", 0)
        self.reads("-5", -5)
        self.reads('""', "")
        self.reads('"\\"\\\\"', '"\\')

    def test_the_text_ends_too_early(self):
        starts = ("", "(", "((", "(1", "(1 ", "(()", "(() ", "(-", "(-5", '"', '"a', '"\\', '"\\"')
        for text in starts + ("y", "ye", "n", "(y", "(n", "(yes", '("a"', "(0", "(1 ("):
            self.fails(text, len(text))

    def test_something_behind_a_whole_tree(self):
        for whole in ("()", "(1)", '"a"', "yes", "no", "0", "-", "12", "-12"):
            for behind in (" ", ")", "(", '"', " 1", "\n", "y", "-", "()"):
                self.fails(whole + behind, len(whole))
        self.fails("00", 1)
        self.fails("yess", 3)
        self.fails("noo", 2)
        self.fails("()()", 2)

    def test_spaces(self):
        self.fails(" ", 0)
        self.fails(" ()", 0)
        self.fails("() ", 2)
        self.fails("( )", 1)
        self.fails("( 1)", 1)
        self.fails("(1 )", 3)
        self.fails("(1  2)", 3)
        self.fails("(1 2  3)", 5)
        self.fails("(1\t2)", 2)
        self.fails("(1\n2)", 2)
        self.fails("(()())", 3)
        self.fails('("a""b")', 4)
        self.fails("(1(2))", 2)
        self.fails("- 5", 1)

    def test_brackets(self):
        self.fails(")", 0)
        self.fails("())", 2)
        self.fails("(()", 3)
        self.fails("(1))", 3)
        self.fails("[1]", 0)
        self.fails("(1]", 2)

    def test_numbers(self):
        self.fails("-0", 1)
        self.fails("(-0)", 2)
        self.fails("-01", 1)
        self.fails("01", 1)
        self.fails("00", 1)
        self.fails("(1 02)", 4)
        self.fails("+1", 0)
        self.fails("(+1)", 1)
        self.fails("--1", 1)
        self.fails("1-", 1)
        self.fails("1_000", 1)
        self.fails("1.0", 1)
        self.fails("1e5", 1)
        self.fails("0x1", 1)
        self.fails("-a", 1)
        self.reads("(- 5)", (None, 5))
        self.reads("(-5 -)", (-5, None))

    def test_digits_of_other_scripts(self):
        self.fails("\u0661", 0)
        self.fails("1\u0661", 1)
        self.fails("\u00b2", 0)
        self.fails("-\uff11", 1)

    def test_half_of_yes_or_no(self):
        self.fails("y)", 1)
        self.fails("ye)", 2)
        self.fails("(ye)", 3)
        self.fails("(n)", 2)
        self.fails("(n o)", 2)
        self.fails("yno", 1)
        self.fails("Yes", 0)
        self.fails("yEs", 1)
        self.fails("nO", 1)
        self.fails("true", 0)
        self.fails("None", 0)
        self.fails("(yes no yen)", 10)

    def test_backslashes(self):
        for sign in "an'/ (0u":
            self.fails('"\\' + sign + '"', 2)
        self.fails('"a\\', 3)
        self.fails('"\\"', 3)
        self.fails('"\\\\\\"', 5)
        self.fails('"\\\\""', 4)
        self.fails("\\", 0)

    def test_characters_that_no_string_has(self):
        for sign in "%\n\t\r\x00\x1f\x7f\x80\u00e9\u20ac\ud800\U0001f600":
            self.fails('"a' + sign + '"', 2)
            self.fails('("a" "' + sign + '")', 6)
            self.fails('"\\' + sign + '"', 2)
            self.fails(sign, 0)
            self.fails("(" + sign, 1)
        self.reads('"$&~ !"', "$&~ !")

    def test_quotes(self):
        self.fails("'a'", 0)
        self.fails("a", 0)
        self.fails('"a', 2)
        self.fails('a"', 0)
        self.fails('"a"b"', 3)

    def test_time_grows_no_faster_than_the_text(self):
        long = 10 ** 6
        begin = time.perf_counter()
        for text, index in (
            ('"' + "a" * long, long + 1),
            ('"' + '\\"' * (long // 2), long + 1),
            ("1" * long, 100),
            ("-" + "9" * long, 101),
            ("(" * long, 30),
            ("(" + "1 " * long, 3998),
        ):
            self.fails(text, index)
        self.reads('"' + "\\\\" * (long // 2) + '"', "\\" * (long // 2))
        self.assertLess(time.perf_counter() - begin, 60)


class BoundsTest(ReadTest):
    def test_depth_of_empty_tuples(self):
        self.reads("(" * 30 + ")" * 30, nested(29))
        self.fails("(" * 31 + ")" * 31, 30)
        self.fails("(" * 30, 30)
        self.fails("(" * 31, 30)

    def test_depth_of_leaves(self):
        for text, leaf in (("0", 0), ("-", None), ('"a"', "a"), ("yes", True), ("-12", -12)):
            self.reads("(" * 29 + text + ")" * 29, nested(29, leaf))
            self.fails("(" * 30 + text + ")" * 30, 30)
            self.fails("(" * 40 + text + ")" * 40, 30)

    def test_depth_behind_other_parts(self):
        self.reads("(1 (2) " + "(" * 29 + ")" * 30, (1, (2,), nested(28)))
        self.fails("(1 (2) " + "(" * 30 + ")" * 31, 7 + 29)
        self.reads("(" * 29 + "() ()" + ")" * 29, nested(28, ((), ())))
        self.fails("(" * 29 + "() (())" + ")" * 29, 29 + 4)
        self.fails("(" * 29 + "() (1)" + ")" * 29, 29 + 4)
        self.fails("(" * 30 + " ", 30)

    def test_far_deeper_texts(self):
        for deep in (1000, 5000, 100000):
            self.fails("(" * deep + ")" * deep, 30)
            self.fails("(" * deep, 30)
            self.fails("(1 " * deep, 88)

    def test_parts_in_one_tuple(self):
        self.reads("(" + " ".join(["1"] * 1999) + ")", (1,) * 1999)
        # The space in front of one part too many is what no tree's text has.
        self.fails("(" + " ".join(["1"] * 2000) + ")", 2 * 1999)
        self.fails("(" + " ".join(["1"] * 5000) + ")", 2 * 1999)
        self.fails("(" + " ".join(["1"] * 1999), 2 * 1999)
        self.fails("(" + " ".join(["1"] * 1999) + " ", 2 * 1999)

    def test_parts_in_nested_tuples(self):
        # 1 + 1 + 999 + 1 + 998 parts.
        many = " ".join(["-"] * 999)
        text = "((" + many + ") (" + many[2:] + "))"
        self.reads(text, ((None,) * 999, (None,) * 998))
        self.fails("((" + many + ") (" + many + "))", len(text) - 2)
        self.fails("((" + many + ") (" + many[2:] + ") ())", len(text) - 1)

    def test_parts_that_begin_with_a_bracket(self):
        text = "(" + "() " * 1998 + "("
        self.reads(text + "))", ((),) * 1999)
        self.fails(text + "1))", len(text))
        self.fails(text + "()))", len(text))
        self.fails(text + ") ())", len(text) + 1)
        self.fails(text, len(text))

    def test_digits(self):
        for digits in ("9" * 100, "1" + "0" * 99):
            self.reads(digits, int(digits))
            self.reads("-" + digits, -int(digits))
            self.reads("(" + digits + " -" + digits + ")", (int(digits), -int(digits)))
            self.fails(digits + "0", 100)
            self.fails("-" + digits + "0", 101)
            self.fails("(5 " + digits + "0)", 103)

    def test_integers_of_thousands_of_digits(self):
        self.fails("1" * 5000, 100)
        self.fails("-" + "1" * 5000, 101)
        self.fails("(" + "1" * 100000 + ")", 101)


LEAVES = re.compile(r'"(?:[ !#$&-\[\]-~]|\\["\\])*"|-?[1-9][0-9]*|0|-|yes|no')
TUPLE = re.compile(r"\((?:a(?: a)*)?\)")


def is_small_text(text):
    """Whether this is the text of a tree, told by putting `a` for leaf after leaf."""
    reduced = ""
    at = 0
    while at < len(text):
        leaf = LEAVES.match(text, at)
        if leaf:
            reduced += "a"
            at = leaf.end()
        elif text[at] in "() ":
            reduced += text[at]
            at += 1
        else:
            return False
    # Two leaves side by side are none; the rest shrinks from the inside.
    shorter = TUPLE.sub("a", reduced)
    while shorter != reduced:
        reduced, shorter = shorter, TUPLE.sub("a", shorter)
    return reduced == "a"


def can_go_on(text):
    """Whether some tree's text begins with this short text."""
    ends = ("", '"', '""', "0", "es", "s", "o")
    return any(
        is_small_text(text + end + ")" * deep) for end in ends for deep in range(len(text) + 1)
    )


class AllShortTextsTest(ReadTest):
    SIGNS = '() -01"\\yesno%'

    def check(self, text):
        """Look at this text, some tree's text begins with which, and at all longer ones."""
        if is_small_text(text):
            self.assertEqual(write_tree(read_tree(text)), text)
        else:
            self.fails(text, len(text))
        if len(text) == 5:
            return
        for sign in self.SIGNS:
            longer = text + sign
            if can_go_on(longer):
                self.check(longer)
            else:
                self.fails(longer, len(text))
                self.fails(longer + "(", len(text))

    def test_all_short_texts(self):
        self.check("")


class ChangedTextsTest(ReadTest):
    def test_one_character_more_less_or_other(self):
        """Each small change of a text is read as what it says, or refused at its first flaw."""
        whole = '(("a\\"" -5 -) (yes () no) "\\\\" 0 10)'
        self.assertTrue(is_small_text(whole))
        for at in range(len(whole)):
            changed = [whole[:at] + whole[at + 1:]]
            for sign in '() -05"\\yn%x\n':
                changed.append(whole[:at] + sign + whole[at:])
                changed.append(whole[:at] + sign + whole[at + 1:])
            for text in changed:
                self.look_at(text)

    def look_at(self, text):
        if is_small_text(text):
            self.assertEqual(write_tree(read_tree(text)), text)
            return
        index = 0
        while index < len(text) and can_go_on(text[:index + 1]):
            index += 1
        self.fails(text, index)


if __name__ == "__main__":
    unittest.main()
