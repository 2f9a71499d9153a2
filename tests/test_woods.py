import copy
import itertools
import re
import unittest

from turnery.errors import NoText, NoWood
from turnery.treetexts import read_tree
from turnery.woods import is_of, leaf_of, read_wood, row_of, show_wood

LIST_TEXT = "list = nil | cons(num list); num = n"
LIST = [("list", [("cons", ("num", "list")), ("nil", ())]), ("num", [("n", ())])]
# A name in several kinds, rows of up to four branches, kinds that are not in the order of their names.
MIXED_TEXT = "b = a(b a a) | e | f(a); a = a | b(a b a b) | d(b)"
MIXED = [
    ("b", [("a", ("b", "a", "a")), ("e", ()), ("f", ("a",))]),
    ("a", [("a", ()), ("b", ("a", "b", "a", "b")), ("d", ("b",))]),
]
# Pairs of a text, as it is shown, and its wood.
SHOWN = [
    ("a = a", [("a", [("a", ())])]),
    ("abcdefgh = ijklmnop", [("abcdefgh", [("ijklmnop", ())])]),
    ("a = a | b(a)", [("a", [("a", ()), ("b", ("a",))])]),
    ("a = a(a) | b", [("a", [("a", ("a",)), ("b", ())])]),
    ("a = a(a a a a) | b", [("a", [("a", ("a",) * 4), ("b", ())])]),
    ("z = a; a = a", [("z", [("a", ())]), ("a", [("a", ())])]),
    ("list = cons(num list) | nil; num = n", LIST),
    (MIXED_TEXT, MIXED),
]
NAMES = "a b c d e f g h i j k l m n o p q".split()


def kinds_text(many):
    return "; ".join([f"{kind} = x" for kind in NAMES[:many]])


def rows_text(many):
    return " | ".join(NAMES[:many])


# A kind's part of a text, all blanks but those between kinds left out.
NAME = "[a-z]{1,8}"
ROW = rf"{NAME}(?:\({NAME}(?: {NAME})*\))?"
KIND = rf"{NAME}={ROW}(?:\|{ROW})*"
WOOD = re.compile(rf"{KIND}(?:;{KIND})*\Z")


def as_expected(found):
    """NoText, NoWood or the wood, for a list of words, by a pattern and by splitting."""
    text = re.sub(r" ?([;=|()]) ?", r"\1", " ".join(found))
    if not WOOD.match(text):
        return NoText
    parts = [part.split("=") for part in text.split(";")]
    wood = []
    for kind, rows in parts:
        pairs = [row.rstrip(")").partition("(") for row in rows.split("|")]
        wood.append((kind, sorted([(name, tuple(inner.split())) for name, sign, inner in pairs])))
    told = [kind for kind, rows in wood]
    sound = len(told) == len(set(told))
    for kind, rows in wood:
        names = [name for name, branches in rows]
        sound = sound and len(names) == len(set(names)) and () in [branches for name, branches in rows]
        sound = sound and all(set(branches) <= set(told) for name, branches in rows)
    return wood if sound else NoWood


def asked(text):
    try:
        return read_wood(text)
    except (NoText, NoWood) as refusal:
        return type(refusal)


class TestReadWood(unittest.TestCase):
    def test_the_example(self):
        self.assertEqual(read_wood(LIST_TEXT), LIST)

    def test_ordinary(self):
        for text, wood in SHOWN:
            with self.subTest(text=text):
                self.assertEqual(read_wood(text), wood)

    def test_rows_in_any_order(self):
        for rows in itertools.permutations(["a(b a a)", "f(a)", "e"]):
            for others in itertools.permutations(["d(b)", "a", "b(a b a b)"]):
                text = "b = " + " | ".join(rows) + "; a = " + " | ".join(others)
                self.assertEqual(read_wood(text), MIXED)

    def test_names_are_sorted_as_texts(self):
        wood = read_wood("k = b | ab | a | aa | abc | z | aaaaaaaa")
        self.assertEqual([name for name, branches in wood[0][1]], ["a", "aa", "aaaaaaaa", "ab", "abc", "b", "z"])

    def test_kinds_in_the_order_of_the_text(self):
        for kinds in itertools.permutations("abcd"):
            wood = read_wood("; ".join([f"{kind} = x(d a) | y" for kind in kinds]))
            self.assertEqual([kind for kind, rows in wood], list(kinds))

    def test_blanks_at_all_places(self):
        text = "   list  =  nil  |  cons  (  num  list  )  ;  num  =  n   "
        self.assertEqual(read_wood(text), LIST)

    def test_no_blanks(self):
        self.assertEqual(read_wood("list=nil|cons(num list);num=n"), LIST)

    def test_a_name_in_several_kinds(self):
        wood = read_wood("a = n | m(b); b = n(a) | m")
        self.assertEqual(wood, [("a", [("m", ("b",)), ("n", ())]), ("b", [("m", ()), ("n", ("a",))])])

    def test_a_name_that_is_a_kind(self):
        self.assertEqual(read_wood("a = a | b; b = b | a"),
                         [("a", [("a", ()), ("b", ())]), ("b", [("a", ()), ("b", ())])])

    def test_the_greatest(self):
        self.assertEqual(len(read_wood(kinds_text(6))), 6)
        self.assertEqual(len(read_wood("k = " + rows_text(16))[0][1]), 16)
        wood = read_wood("; ".join([f"{kind} = {rows_text(3 if kind < 'e' else 2)}" for kind in "abcdef"]))
        self.assertEqual([len(rows) for kind, rows in wood], [3, 3, 3, 3, 2, 2])
        self.assertEqual(read_wood("k = x(k k k k) | y")[0][1][0], ("x", ("k",) * 4))
        names = " | ".join(["leaf"] + [f"{name}(k k k k)" for name in NAMES[:15]])
        self.assertEqual(len(read_wood("k = " + names)[0][1]), 16)

    def test_lists_and_tuples(self):
        for text, wood in SHOWN:
            told = read_wood(text)
            self.assertIs(type(told), list)
            for pair in told:
                self.assertIs(type(pair), tuple)
                self.assertEqual([type(each) for each in pair], [str, list])
                for row in pair[1]:
                    self.assertIs(type(row), tuple)
                    self.assertEqual([type(each) for each in row], [str, tuple])
                    self.assertEqual({type(kind) for kind in row[1]} - {str}, set())

    def test_a_changed_wood_changes_no_later_answer(self):
        told = read_wood(LIST_TEXT)
        told[0][1].append(("more", ()))
        told[1][1].clear()
        told.append(("kind", []))
        self.assertEqual(read_wood(LIST_TEXT), LIST)
        later = read_wood(LIST_TEXT)
        self.assertEqual(told[0][1], LIST[0][1] + [("more", ())])
        later.clear()
        self.assertEqual(read_wood(LIST_TEXT), LIST)

    def test_all_short_texts(self):
        for many in range(7):
            for found in itertools.product(["a", "b", "=", "|", ";", "(", ")"], repeat=many):
                self.assertEqual(asked(" ".join(found)), as_expected(found), found)

    def test_longer_texts(self):
        rows = ["a", "b", "a ( a )", "b ( b a )", "a ( c )", "a ( b"]
        for first, second, third in itertools.product(rows, repeat=3):
            for text in [f"a = {first} | {second} ; b = {third}", f"b = {first} ; b = {second} | {third}"]:
                self.assertEqual(asked(text), as_expected(text.split()), text)


class TestNoText(unittest.TestCase):
    def refused(self, *texts):
        for text in texts:
            with self.subTest(text=text):
                with self.assertRaises(NoText):
                    read_wood(text)

    def test_no_words(self):
        self.refused("", " ", "    ")

    def test_no_equals_sign(self):
        self.refused("a", "a b", "a a", "a(a)", "a | b", "a; b = c", "a = b; c", "a = b; c d", "a : b", "= a", "= = a",
                     "=", "a = = b", "a = b = c")

    def test_an_empty_row(self):
        self.refused("a =", "a = ;", "a = |", "a = b |", "a = | b", "a = b || c", "a = b | | c", "a = ; b = c",
                     "a = b | ; c = d", "a = b; c =", "a = b; c = |")

    def test_brackets(self):
        self.refused("a = b()", "a = b( )", "a = b | c()", "a = b(a", "a = b | c(a", "a = b(", "a = b(a; c = d",
                     "a = b(a | c", "a = b)", "a = b(a))", "a = b a)", "a = (a)", "a = b((a))", "a = b(a)(a)",
                     "a = b(a(a))", "(a = b)", "a(a) = b", "a = (b)", "a = b | c(a) d")

    def test_signs_in_brackets(self):
        for sign in ";:=|*":
            self.refused(f"a = b | c(a{sign}a)", f"a = b | c({sign})", f"a = b | c({sign}a)", f"a = b | c(a{sign})")

    def test_a_number(self):
        self.refused("5", "a5 = b", "5 = b", "a = 5", "a = b5", "a = b-5", "a = b0", "a = b | c(5)", "a = b | c(a5)",
                     "a = b | c5(a)", "a = b | c(a)5", "a = b 5", "a = b; 5", "5 a = b")

    def test_a_part_behind_the_end(self):
        self.refused("a = b c", "a = b(a) c", "a = b | c d", "a = b c = d", "a = b; c = d e", "a = b; c = d e = f",
                     "a = b a(", "a = b )")

    def test_other_signs(self):
        self.refused("a : b", "a = b : c", "a = b:", ": a = b", "a = b; : c = d", "a = *", "a = *b", "a = b*", "*a = b",
                     "a * b", "a = b | c : d", "a = b | *")

    def test_nothing_at_a_semicolon(self):
        self.refused(";", "a = b;", "a = b; ", "; a = b", "a = b;; c = d", "a = b; ; c = d", "a = b; c = d;")

    def test_too_many_kinds(self):
        self.refused(kinds_text(7), kinds_text(8), kinds_text(17))

    def test_too_many_rows(self):
        self.refused("k = " + rows_text(17), "k = x; l = " + rows_text(16), "k = " + rows_text(16) + "; l = x",
                     "k = " + rows_text(9) + "; l = " + rows_text(8),
                     "; ".join([f"{kind} = {rows_text(3 if kind < 'f' else 2)}" for kind in "abcdef"]))

    def test_too_many_branches(self):
        self.refused("k = x(k k k k k) | y", "k = y | x(k k k k k k)", "k = y; l = y | z(k k k k k)",
                     "k = x(" + "k " * 100 + ") | y")

    def test_ahead_of_what_no_wood_has(self):
        twice = "; ".join(["k = x"] * 7)
        rows = " | ".join(["x"] * 17)
        self.refused(twice, "k = " + rows, "k = x(no no no no no)", "k = x | x(k k k k k)", "k = x; k = x;",
                     "k = x | x |", "k = x(no) | ", "k = x(k) 5", "k = x | x y", "k = x | y(no); l", "k = x(k)); l = y",
                     "k = x; k = " + rows_text(16), kinds_text(6) + "; a = x", "k = x; k = x : y", "k = x(l); k = y()",
                     "k = x(k k k k k)")

    def test_what_words_refuses(self):
        self.refused("A = b", "a = B", "a = b,c", "a = b | c(a, a)", "a = b\n", "a\t= b", "abcdefghi = b",
                     "a = abcdefghi", "a = b | c(abcdefghi)", "a = b -", "a = b;-", "a = b01", "a == b -0",
                     "\u00e9 = b", "k = x; k = x; -", "k = x(k) ,")

    def test_no_text(self):
        self.refused(None, 0, True, [], [("a", [("a", ())])], ["a = b"], ("a = b",), {}, b"a = b", 1.5, object())


class TestNoWood(unittest.TestCase):
    def refused(self, *texts):
        for text in texts:
            with self.subTest(text=text):
                with self.assertRaises(NoWood):
                    read_wood(text)

    def test_a_kind_told_twice(self):
        self.refused("a = b; a = b", "a = b; a = c", "a = b; c = d; a = e", "a = b; c = d; c = d", "a = b;a=b|c")

    def test_a_name_twice_in_one_kind(self):
        self.refused("a = b | b", "a = b | c | b", "a = b | b(a)", "a = b(a) | c | b(a a)", "a = b; c = d | d",
                     "a = b(a) | b(a) | c")

    def test_a_kind_that_is_not_told(self):
        self.refused("a = b | c(d)", "a = b | c(b)", "a = b | c(a d a)", "a = b; c = d | e(f)", "a = b | c(a a a d)",
                     "a = b | c(c)", "a = b(d) | c")

    def test_no_row_without_branches(self):
        self.refused("a = b(a)", "a = b(a) | c(a a)", "a = b; c = d(a)", "a = b(c); c = d", "a = b(c); c = d(a)",
                     "a = b | c(d); d = e(a) | f(d)")

    def test_the_greatest(self):
        self.refused(kinds_text(5) + "; a = x", "k = " + rows_text(15) + " | a", "k = x(k k k k)", "k = x | y(k k k l)")

    def test_a_refusal_changes_no_later_answer(self):
        self.refused("a = b(a)")
        self.assertEqual(read_wood(LIST_TEXT), LIST)


class TestShowWood(unittest.TestCase):
    def test_ordinary(self):
        for text, wood in SHOWN:
            with self.subTest(text=text):
                self.assertEqual(show_wood(wood), text)
                self.assertIs(type(show_wood(wood)), str)

    def test_the_example(self):
        self.assertEqual(show_wood(read_wood(LIST_TEXT)), "list = cons(num list) | nil; num = n")

    def test_what_is_shown_is_read_to_the_same_wood(self):
        texts = [kinds_text(6), "k = " + rows_text(16), "k = z | x(k k k k); l = q(k l k) | b; m = b | a(m)"]
        for wood in [wood for text, wood in SHOWN] + [read_wood(text) for text in texts]:
            self.assertEqual(read_wood(show_wood(wood)), wood)

    def test_what_is_handed_in_stays(self):
        for text, wood in SHOWN:
            before = copy.deepcopy(wood)
            self.assertEqual(show_wood(wood), show_wood(wood))
            self.assertEqual(wood, before)


class TestRowOf(unittest.TestCase):
    def test_each_kind_and_name(self):
        for text, wood in SHOWN:
            for kind, rows in wood:
                for name, branches in rows:
                    self.assertEqual(row_of(wood, kind, name), branches)
                    self.assertIs(type(row_of(wood, kind, name)), tuple)

    def test_the_kind_counts(self):
        self.assertEqual(row_of(MIXED, "b", "a"), ("b", "a", "a"))
        self.assertEqual(row_of(MIXED, "a", "a"), ())

    def test_no_such_kind(self):
        for kind in ["x", "cons", "nil", "n", "lis", "lists"]:
            for name in ["cons", "nil", "n", "x"]:
                self.assertIsNone(row_of(LIST, kind, name))

    def test_no_such_row(self):
        for kind, name in [("list", "n"), ("num", "nil"), ("num", "cons"), ("list", "x"), ("list", "list"),
                           ("num", "list"), ("list", "con")]:
            self.assertIsNone(row_of(LIST, kind, name))
        for kind, name in [("a", "e"), ("a", "f"), ("b", "b"), ("b", "d")]:
            self.assertIsNone(row_of(MIXED, kind, name))

    def test_what_is_handed_in_stays(self):
        wood = copy.deepcopy(MIXED)
        for kind, name in [("a", "b"), ("a", "x"), ("x", "a")]:
            self.assertEqual(row_of(wood, kind, name), row_of(wood, kind, name))
        self.assertEqual(wood, MIXED)


class TestIsOf(unittest.TestCase):
    def check(self, wood, kind, text, told):
        with self.subTest(kind=kind, text=text):
            before = copy.deepcopy(wood)
            self.assertIs(is_of(wood, kind, read_tree(text)), told)
            self.assertIs(is_of(wood, kind, read_tree(text)), told)
            self.assertEqual(wood, before)

    def test_of_the_kind(self):
        for text in ["nil", "cons(n nil)", "cons(n cons(n nil))", "cons(n cons(n cons(n cons(n nil))))"]:
            self.check(LIST, "list", text, True)
        self.check(LIST, "num", "n", True)
        for text in ["e", "a(e a a)", "f(a)", "f(d(e))", "a(a(e a a) b(a e a e) d(f(a)))"]:
            self.check(MIXED, "b", text, True)
        for text in ["a", "d(e)", "b(a e a e)", "b(a a(e a a) d(e) f(a))"]:
            self.check(MIXED, "a", text, True)

    def test_marks_do_not_matter(self):
        self.check(LIST, "list", "cons-5(n7 cons" + "9" * 60 + "(n nil-1))", True)
        self.check(LIST, "num", "nil5", False)

    def test_a_kind_that_is_not_told(self):
        for text in ["nil", "n", "cons(n nil)", "x"]:
            self.check(LIST, "x", text, False)
            self.check(LIST, "cons", text, False)

    def test_another_name(self):
        for text in ["x", "n", "con(n nil)", "cons(x nil)", "cons(n x)", "cons(n cons(n x))", "cons(n cons(x nil))",
                     "x(n nil)", "list"]:
            self.check(LIST, "list", text, False)
        self.check(LIST, "num", "nil", False)

    def test_a_branch_less_or_more(self):
        for text in ["cons", "cons(n)", "cons(nil)", "cons(n nil n)", "cons(n nil nil)", "nil(n)", "nil(nil)",
                     "cons(n(n) nil)", "cons(n nil(n))", "cons(n cons)", "cons(n cons(n))", "cons(n cons(n nil nil))",
                     "cons(n cons(n cons(n nil(nil))))"]:
            self.check(LIST, "list", text, False)
        for text in ["a", "a(e a)", "a(e a a a)", "f", "f(a a)", "e(a)", "f(b(a e a))", "f(b(a e a e a))"]:
            self.check(MIXED, "b", text, False)

    def test_a_branch_of_another_kind(self):
        for text in ["cons(nil nil)", "cons(n n)", "cons(nil n)", "cons(n cons(n n))", "cons(n cons(nil nil))",
                     "cons(cons(n nil) nil)"]:
            self.check(LIST, "list", text, False)
        for text in ["a(a a a)", "a(e e a)", "a(e a e)", "f(e)", "f(f(a))", "f(b(e e a e))", "f(b(a a a e))",
                     "f(b(a e e e))", "f(b(a e a a))"]:
            self.check(MIXED, "b", text, False)
        self.check(MIXED, "a", "e", False)
        self.check(MIXED, "b", "d(e)", False)

    def test_deep_down(self):
        for end, told in [("nil", True), ("n", False), ("x", False), ("nil(n)", False), ("cons", False)]:
            text = "cons(n " * 37 + end + ")" * 37
            self.check(LIST, "list", text, told)

    def test_wide(self):
        wood = read_wood("k = r(l l l l) | x; l = r(m m m m) | x; m = r(o o o o) | x; o = n")
        text = "r(o o o o)".replace("o", "n")
        text = "r(" + " ".join([text] * 4) + ")"
        self.check(wood, "l", text, True)
        self.check(wood, "k", "r(" + " ".join([text, text, "x"]) + ")", False)
        self.check(wood, "k", "r(" + " ".join([text, "x", "x", "x"]) + ")", True)
        self.check(wood, "m", text, False)


class TestLeafOf(unittest.TestCase):
    def test_each_kind(self):
        self.assertEqual(leaf_of(LIST, "list"), ("nil", 0, ()))
        self.assertEqual(leaf_of(LIST, "num"), ("n", 0, ()))
        self.assertEqual(leaf_of(MIXED, "b"), ("e", 0, ()))
        self.assertEqual(leaf_of(MIXED, "a"), ("a", 0, ()))

    def test_the_first_row_without_branches(self):
        wood = read_wood("k = z | y(k) | d | c(k) | b(k k) | a(k) | e; l = b | a")
        self.assertEqual(leaf_of(wood, "k"), ("d", 0, ()))
        self.assertEqual(leaf_of(wood, "l"), ("a", 0, ()))

    def test_it_is_of_the_kind(self):
        for text, wood in SHOWN:
            for kind, rows in wood:
                self.assertIs(is_of(wood, kind, leaf_of(wood, kind)), True)

    def test_what_is_handed_in_stays(self):
        wood = copy.deepcopy(MIXED)
        self.assertEqual(leaf_of(wood, "b"), leaf_of(wood, "b"))
        self.assertEqual(wood, MIXED)


if __name__ == "__main__":
    unittest.main()
