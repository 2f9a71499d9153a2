import copy
import itertools
import re
import unittest

from turnery.errors import NoText
from turnery.treetexts import read_tree, show_tree
from turnery.trees import levels, size
from turnery.words import words

EXAMPLE = "a5(b c-3(d) b0)"
EXAMPLE_TREE = ("a", 5, (("b", 0, ()), ("c", -3, (("d", 0, ()),)), ("b", 0, ())))
MOST = 10 ** 60 - 1
# Pairs of a text, as it is shown, and its tree.
SHOWN = [
    ("a", ("a", 0, ())),
    ("abcdefgh", ("abcdefgh", 0, ())),
    ("a1", ("a", 1, ())),
    ("a-1", ("a", -1, ())),
    ("z10", ("z", 10, ())),
    ("a" + "9" * 60, ("a", MOST, ())),
    ("a-" + "9" * 60, ("a", -MOST, ())),
    ("a1" + "0" * 59, ("a", 10 ** 59, ())),
    ("a(b)", ("a", 0, (("b", 0, ()),))),
    ("a7(a7)", ("a", 7, (("a", 7, ()),))),
    ("a(b c)", ("a", 0, (("b", 0, ()), ("c", 0, ())))),
    ("a(b(c) d)", ("a", 0, (("b", 0, (("c", 0, ()),)), ("d", 0, ())))),
    ("a(b c(d))", ("a", 0, (("b", 0, ()), ("c", 0, (("d", 0, ()),))))),
    ("a(b(c(d)))", ("a", 0, (("b", 0, (("c", 0, (("d", 0, ()),)),)),))),
    ("a5(b c-3(d) b)", EXAMPLE_TREE),
    ("put(call mode)", ("put", 0, (("call", 0, ()), ("mode", 0, ())))),
]


def line_text(many):
    """The text of a tree of so many levels with one branch each."""
    return "a(" * (many - 1) + "a" + ")" * (many - 1)


def line(many):
    tree = ("a", 0, ())
    for _ in range(many - 1):
        tree = ("a", 0, (tree,))
    return tree


def wide_text(many):
    """The text of a root with so many leaves."""
    return "a(" + " ".join(["b"] * many) + ")"


def wide(many):
    return ("a", 0, (("b", 0, ()),) * many)


def is_tree_text(text):
    """Whether the text has the form of a tree, by reducing it from the leaves up."""
    left = "".join("n" if word.isalpha() else "#" if word[-1].isdigit() else word for word in words(text))
    before = None
    while left != before:
        before = left
        left = re.sub(r"n#?\(T+\)|n#?(?![#(])", "T", left)
    return left == "T"


def is_of_tuples(tree):
    plain = type(tree) is tuple and type(tree[0]) is str and type(tree[1]) is int and type(tree[2]) is tuple
    return plain and len(tree) == 3 and all(is_of_tuples(branch) for branch in tree[2])


class TestReadTree(unittest.TestCase):
    def test_the_example(self):
        self.assertEqual(read_tree(EXAMPLE), EXAMPLE_TREE)

    def test_ordinary(self):
        for text, tree in SHOWN:
            with self.subTest(text=text):
                self.assertEqual(read_tree(text), tree)

    def test_tuples_and_whole_numbers(self):
        for text, tree in SHOWN:
            self.assertTrue(is_of_tuples(read_tree(text)), text)

    def test_zero_behind_a_name(self):
        self.assertEqual(read_tree("a0"), ("a", 0, ()))
        self.assertEqual(read_tree("a 0(b 0)"), ("a", 0, (("b", 0, ()),)))

    def test_blanks_at_all_places(self):
        self.assertEqual(read_tree("  a  5  (  b  c  -3  (  d  )  b  0  )  "), EXAMPLE_TREE)
        self.assertEqual(read_tree(" a"), ("a", 0, ()))
        self.assertEqual(read_tree("a "), ("a", 0, ()))
        self.assertEqual(read_tree("a" + " " * 3998 + "1"), ("a", 1, ()))

    def test_no_blanks_where_words_part_without(self):
        self.assertEqual(read_tree("a5(b c-3(d)b0)"), EXAMPLE_TREE)
        self.assertEqual(read_tree("a(b1c2)"), ("a", 0, (("b", 1, ()), ("c", 2, ()))))
        self.assertEqual(read_tree("a(b-1c(d)e)"),
                         ("a", 0, (("b", -1, ()), ("c", 0, (("d", 0, ()),)), ("e", 0, ()))))

    def test_two_hundred_names(self):
        self.assertEqual(read_tree(wide_text(199)), wide(199))
        self.assertEqual(size(read_tree("r(" + wide_text(99) + wide_text(98) + ")")), 200)
        rest = " ".join(["b"] * 160)
        tree = read_tree("r(" + line_text(39) + " " + rest + ")")
        self.assertEqual((size(tree), levels(tree)), (200, 40))

    def test_forty_levels(self):
        self.assertEqual(read_tree(line_text(40)), line(40))
        self.assertEqual(read_tree("a(b " + line_text(39) + "b)"),
                         ("a", 0, (("b", 0, ()), line(39), ("b", 0, ()))))

    def test_all_short_texts(self):
        for many in range(7):
            for found in itertools.product(["a", "5", "0", "(", ")", "="], repeat=many):
                text = " ".join(found)
                try:
                    tree = read_tree(text)
                except NoText:
                    self.assertFalse(is_tree_text(text), text)
                else:
                    self.assertTrue(is_tree_text(text), text)
                    self.assertEqual(words(show_tree(tree)), [word for word in found if word != "0"])

    def test_the_same_again(self):
        for text, tree in SHOWN:
            self.assertEqual(read_tree(text), read_tree(text))


class TestRefused(unittest.TestCase):
    def refused(self, *texts):
        for text in texts:
            with self.subTest(text=text):
                with self.assertRaises(NoText):
                    read_tree(text)

    def test_no_words(self):
        self.refused("", " ", "     ")

    def test_two_trees(self):
        self.refused("a b", "a1 b2", "a(b) c", "a b(c)", "a(b)(c)", "a(b) c(d)")

    def test_a_number_ahead(self):
        self.refused("5", "-5", "0", "5a", "5 a", "a(5)", "a(5 b)", "a(5b)", "5(a)")

    def test_two_numbers(self):
        self.refused("a 1 2", "a1 2", "a1-2", "a0 0", "a(b1-1)", "a1 2(b)")

    def test_a_number_behind_the_brackets(self):
        self.refused("a(b)5", "a(b(c)5)")

    def test_empty_brackets(self):
        self.refused("()", "a()", "a5()", "a( )", "a(b())", "a(b() c)", "a(())", "(a)", "((a))", "a((b))")

    def test_brackets_without_an_end(self):
        self.refused("(", "a(", "a5(", "a(b", "a(b c", "a(b(c)", "a(b(c", "a(b1", "a(" * 2000)

    def test_brackets_without_a_beginning(self):
        self.refused(")", "a)", "a5)", "a b)", "a(b))", ")a(", "a)b(", "a" + ")" * 3999)

    def test_something_behind_the_end(self):
        self.refused("a(b)c", "a(b)1", "a(b)(", "a(b))", "a(b);", "a;", "a(b) =", "a5 :", "a b c")

    def test_signs_that_no_tree_has(self):
        for sign in ";:=|*":
            self.refused(sign, sign + "a", "a" + sign, "a" + sign + "1", "a(" + sign + ")", "a(b" + sign + ")",
                         "a(b" + sign + "c)", "a" + sign + "(b)", "a(b)" + sign, "a(" + sign + "b)")

    def test_more_than_two_hundred_names(self):
        self.refused(wide_text(200), wide_text(201), wide_text(1900), "r(" + wide_text(99) + wide_text(99) + ")",
                     "r(" + line_text(39) + " " + " ".join(["b"] * 161) + ")")

    def test_more_than_forty_levels(self):
        self.refused(line_text(41), line_text(42), line_text(200), line_text(1300), "a(b " + line_text(40) + ")",
                     "a(" + line_text(40) + " b)", "(" * 4000)

    def test_what_words_refuses(self):
        self.refused("A", "a-", "a -", "a- 5", "a-0", "a00", "a05", "abcdefghi", "a" + "1" * 61, "a-" + "1" * 61,
                     "a,b", "a(b,c)", "a[b]", "a(b\nc)", "a\t", "a\n", "\u00e9", "a\u0665", "a.5", "a+5", "a(b) ,")

    def test_no_text(self):
        self.refused(None, 0, 5, True, [], ["a"], ("a", 0, ()), {}, b"a", 1.5, object())

    def test_a_refusal_changes_no_later_answer(self):
        self.refused("a(b")
        self.assertEqual(read_tree("a(b)"), ("a", 0, (("b", 0, ()),)))


class TestShowTree(unittest.TestCase):
    def test_ordinary(self):
        for text, tree in SHOWN:
            with self.subTest(text=text):
                self.assertEqual(show_tree(tree), text)
                self.assertIs(type(show_tree(tree)), str)

    def test_the_example(self):
        self.assertEqual(show_tree(read_tree(EXAMPLE)), "a5(b c-3(d) b)")

    def test_wide(self):
        self.assertEqual(show_tree(wide(1)), "a(b)")
        self.assertEqual(show_tree(wide(199)), wide_text(199))

    def test_deep(self):
        self.assertEqual(show_tree(line(40)), line_text(40))

    def test_beyond_what_is_read(self):
        self.assertEqual(show_tree(wide(400)), wide_text(400))
        self.assertEqual(show_tree(line(60)), line_text(60))
        self.assertEqual(show_tree(("a", 10 ** 61, ())), "a1" + "0" * 61)

    def test_what_is_shown_is_read_to_the_same_tree(self):
        for tree in [tree for text, tree in SHOWN] + [wide(199), wide(30), line(40), line(17)]:
            self.assertEqual(read_tree(show_tree(tree)), tree)

    def test_what_is_handed_in_stays(self):
        for text, tree in SHOWN:
            before = copy.deepcopy(tree)
            first = show_tree(tree)
            self.assertEqual(tree, before)
            self.assertEqual(show_tree(tree), first)


if __name__ == "__main__":
    unittest.main()
