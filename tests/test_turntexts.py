import copy
import itertools
import random
import re
import unittest

from tests.helper import call, grown_turning, line_term, put
from turnery.errors import NoText, NoTurning
from turnery.terms import term_size
from turnery.turntexts import read_turning, show_turning
from turnery.woods import read_wood
from turnery.words import words

MOST = 10 ** 60 - 1
LIST = read_wood("list = nil | cons(num list); num = n")
EXAMPLE = "*q0; q list nil : nil; q list cons : cons(*m0 *q1); m num n : n=1"
# The rows of list are cons and nil, in this order.
EXAMPLE_MODES = [("list", [put("cons", call(1, 0), call(0, 1)), put("nil")]), ("num", [put("n", kept=True, add=1)])]
# A name in two kinds; the rows of t are leaf, node, pair, those of u leaf, turn.
WOOD = read_wood("t = pair(u v) | node(t t u) | leaf; u = leaf | turn(t); v = end")
ONE = read_wood("t = l")
TURN = "; ".join([
    "top7(*p0 in(*s0 *p0))",
    "p t leaf : d-4", "p t node : e(*p0 *s1 f(*q2 *q2))", "p t pair : *v1",
    "q u leaf : a=", "q u turn : b(c=5(*p0) *s0)",
    "v v end : call(put=-3)",
    "s t pair : i(j(k(*q0)) *v1)", "s t node : *s1", "s t leaf : h",
])


def by_name(number):
    """A mode's name, by counting up."""
    letters = "abcdefghijklmnopqrstuvwxyz"
    found = list(letters) + [first + second for first in letters[1:] for second in letters]
    return found[number]


def rules_text(many):
    """A turning of ONE's, of so many modes with a rule each."""
    return "; ".join(["s"] + [by_name(number) + " t l : l" for number in range(many)])


def wide_text(many):
    """The text of a term of so many puts."""
    return "a(" + " ".join(["b"] * (many - 1)) + ")"


def deep_text(many, end="b"):
    """The text of a term with so many brackets within one another."""
    return "a(" * many + end + ")" * many


def is_term(found):
    """Whether the words have the form of a term, by reducing them from their ends up."""
    left = "".join(["n" if word.isalpha() else "#" if word[-1].isdigit() else word for word in found])
    before = None
    while left != before:
        before = left
        left = re.sub(r"\*n#|(?<!\*)n=?#?\(T+\)|(?<!\*)n=?#?(?![=#(])", "T", left)
    return left == "T"


def parts_of(found):
    """The words between the `;`."""
    parts = [[]]
    for word in found:
        if word == ";":
            parts.append([])
        else:
            parts[-1].append(word)
    return parts


def calls_in(term):
    """The calls of a term's words, as texts and numbers."""
    return [(term[spot + 1], int(term[spot + 2])) for spot, word in enumerate(term) if word == "*"]


def fits(kinds, modes, term):
    return all(mode in modes and 0 <= branch < len(kinds) and modes[mode] == kinds[branch]
               for mode, branch in calls_in(term))


def as_expected(wood, found):
    """NoText, NoTurning or None where there is a turning, for a list of words, without making any terms."""
    start, *rules = parts_of(found)
    formed = [len(rule) > 4 and "".join(rule[:3]).isalpha() and rule[3] == ":" and is_term(rule[4:]) for rule in rules]
    if not is_term(start) or not all(formed):
        return NoText
    rows = {kind: dict(its_rows) for kind, its_rows in wood}
    modes = {rule[0]: rule[1] for rule in rules}
    wanted = sorted([(mode, kind, name) for mode, kind in modes.items() for name in rows.get(kind, {"": ()})])
    if sorted([tuple(rule[:3]) for rule in rules]) != wanted or "=" in start:
        return NoTurning
    if not fits([wood[0][0]], modes, start):
        return NoTurning
    return None if all(fits(rows[rule[1]][rule[2]], modes, rule[4:]) for rule in rules) else NoTurning


def asked(wood, text):
    try:
        read_turning(wood, text)
    except (NoText, NoTurning) as refusal:
        return type(refusal)
    return None


class ReadCase(unittest.TestCase):
    def refused(self, error, wood, *texts):
        for text in texts:
            with self.subTest(text=text):
                with self.assertRaises(error) as caught:
                    read_turning(wood, text)
                self.assertIs(type(caught.exception), error)


class TestReadTurning(ReadCase):
    def test_the_example(self):
        self.assertEqual(read_turning(LIST, EXAMPLE), (LIST, call(0), EXAMPLE_MODES))

    def test_lists_and_tuples(self):
        told = read_turning(LIST, EXAMPLE)
        self.assertIs(type(told), tuple)
        self.assertEqual([type(each) for each in told], [list, tuple, list])
        for kind, rules in told[2]:
            self.assertIs(type(rules), list)
        kept = told[2][1][1][0]
        self.assertIs(kept[2], True)
        self.assertIs(told[2][0][1][1][2], False)
        self.assertEqual([type(each) for each in kept], [str, str, bool, int, tuple])

    def test_rules_in_any_order(self):
        rules = EXAMPLE.split("; ")[1:]
        for order in itertools.permutations(rules):
            told = read_turning(LIST, "; ".join(("*q0",) + order))
            if order[0][0] == "q":
                self.assertEqual(told, (LIST, call(0), EXAMPLE_MODES))
            else:
                self.assertEqual(told, (LIST, call(1), [
                    EXAMPLE_MODES[1], ("list", [put("cons", call(0, 0), call(1, 1)), put("nil")])]))

    def test_several_kinds(self):
        self.assertEqual(read_turning(WOOD, TURN), (WOOD, put("top", call(0), put("in", call(3), call(0)), add=7), [
            ("t", [put("d", add=-4), put("e", call(0, 0), call(3, 1), put("f", call(1, 2), call(1, 2))), call(2, 1)]),
            ("u", [put("a", kept=True), put("b", put("c", call(0, 0), kept=True, add=5), call(3, 0))]),
            ("v", [put("call", put("put", kept=True, add=-3))]),
            ("t", [put("h"), call(3, 1), put("i", put("j", put("k", call(1, 0))), call(2, 1))]),
        ]))

    def test_modes_are_numbered_as_their_first_rules_come(self):
        start, *rules = TURN.split("; ")
        chance = random.Random(4)
        for _ in range(60):
            chance.shuffle(rules)
            told = read_turning(WOOD, "; ".join([start] + rules))
            order = list(dict.fromkeys([rule[0] for rule in rules]))
            self.assertEqual([kind for kind, terms in told[2]], [{"p": "t", "q": "u", "v": "v", "s": "t"}[mode]
                                                                 for mode in order])
            self.assertEqual(told[1], put("top", call(order.index("p")),
                                          put("in", call(order.index("s")), call(order.index("p"))), add=7))
            self.assertEqual(told[2][order.index("p")][1][2], call(order.index("v"), 1))
            self.assertEqual(told[2][order.index("s")][1][0], put("h"))

    def test_blanks_at_all_places(self):
        for wood, text in [(LIST, EXAMPLE), (WOOD, TURN)]:
            plain = read_turning(wood, text)
            self.assertEqual(read_turning(wood, "  " + "  ".join(words(text)) + "  "), plain)
            self.assertEqual(read_turning(wood, " ".join(words(text))), plain)

    def test_no_blanks_where_words_part_without(self):
        self.assertEqual(read_turning(LIST, "*q0;q list nil:nil;q list cons:cons(*m0*q1);m num n:n=1"),
                         read_turning(LIST, EXAMPLE))
        self.assertEqual(read_turning(LIST, "a5"), (LIST, put("a", add=5), []))
        self.assertEqual(read_turning(LIST, "a(b5c-1(d0e))"),
                         (LIST, put("a", put("b", add=5), put("c", put("d"), put("e"), add=-1)), []))

    def test_marks(self):
        for text, mark in [("", 0), ("0", 0), ("5", 5), ("-5", -5), ("10", 10), ("9" * 60, MOST),
                           ("-" + "9" * 60, -MOST)]:
            for between in ["", " "]:
                plain = "a" + between + text
                kept = "a" + between + "=" + between + text
                self.assertEqual(read_turning(LIST, plain)[1], put("a", add=mark))
                self.assertEqual(read_turning(LIST, f"x({plain} b({plain}(c)))")[1],
                                 put("x", put("a", add=mark), put("b", put("a", put("c"), add=mark))))
                for shown, term in [(plain, put("a", add=mark)), (kept, put("a", kept=True, add=mark)),
                                    (f"{kept}(b {kept})", put("a", put("b"), put("a", kept=True, add=mark), kept=True,
                                                              add=mark))]:
                    self.assertEqual(read_turning(LIST, f"s; m num n : {shown}"), (LIST, put("s"), [("num", [term])]))

    def test_no_modes(self):
        for text, start in [("a", put("a")), ("put(call call5)", put("put", put("call"), put("call", add=5)))]:
            self.assertEqual(read_turning(LIST, text), (LIST, start, []))
            self.assertEqual(read_turning(WOOD, text), (WOOD, start, []))

    def test_modes_that_are_not_called(self):
        self.assertEqual(read_turning(LIST, "a; m num n : n"), (LIST, put("a"), [("num", [put("n")])]))

    def test_names_of_modes_kinds_and_rows_do_not_meet(self):
        wood = read_wood("a = a | b(a)")
        told = read_turning(wood, "a(*a0 *b0); a a b : b(*b0); a a a : a; b a a : a; b a b : *a0")
        self.assertEqual(told, (wood, put("a", call(0), call(1)), [("a", [put("a"), put("b", call(1))]),
                                                                   ("a", [put("a"), call(0)])]))

    def test_names_put_out_need_not_be_of_the_wood(self):
        self.assertEqual(read_turning(ONE, "x(*y0); y t l : zzzzzzzz"),
                         (ONE, put("x", call(0)), [("t", [put("zzzzzzzz")])]))

    def test_the_most_that_is_read(self):
        told = read_turning(ONE, rules_text(40))
        self.assertEqual(told, (ONE, put("s"), [("t", [put("l")])] * 40))
        self.assertEqual(term_size(read_turning(ONE, wide_text(120))[1]), 120)
        told = read_turning(ONE, wide_text(20) + "; a t l : " + wide_text(60) + "; b t l : " + wide_text(40))
        self.assertEqual([term_size(told[1])] + [term_size(rules[0]) for kind, rules in told[2]], [20, 60, 40])
        calls = "a(" + "*a0 " * 118 + "); a t l : a"
        self.assertEqual(read_turning(ONE, calls)[1], put("a", *[call(0)] * 118))
        self.assertEqual(read_turning(ONE, deep_text(8))[1], line_term(9, put("b")))
        told = read_turning(ONE, deep_text(8, "*q0") + "; q t l : a(" + deep_text(7) + deep_text(7) + " b)")
        self.assertEqual(told[1], line_term(9, call(0)))
        self.assertEqual(told[2][0][1][0], put("a", *[line_term(8, put("b"))] * 2, put("b")))
        self.assertEqual(read_turning(ONE, "a" + " " * 3998 + "1")[1], put("a", add=1))

    def test_brackets_beside_one_another(self):
        self.assertEqual(read_turning(ONE, "a(" + "b(c)" * 50 + ")")[1], put("a", *[put("b", put("c"))] * 50))

    def test_the_same_again(self):
        for wood, text in [(LIST, EXAMPLE), (WOOD, TURN), (ONE, rules_text(40))]:
            before = copy.deepcopy(wood)
            self.assertEqual(read_turning(wood, text), read_turning(wood, text))
            self.assertEqual(wood, before)


class TestOwn(unittest.TestCase):
    def test_the_wood_changed_behind_the_call(self):
        wood = copy.deepcopy(LIST)
        told = read_turning(wood, EXAMPLE)
        before = copy.deepcopy(told)
        wood[1][1].append(("x", ()))
        wood[0][1].pop()
        wood.append(("y", [("y", ())]))
        self.assertEqual(told, before)
        self.assertEqual(told[0], LIST)
        shown = show_turning(told)
        wood.clear()
        self.assertEqual(show_turning(told), shown)

    def test_what_was_told_changed(self):
        wood = copy.deepcopy(LIST)
        told = read_turning(wood, EXAMPLE)
        told[0][0][1].clear()
        told[0][1][1].append(("x", ()))
        told[0].pop()
        told[2][0][1].pop()
        told[2].append(("num", [put("n")]))
        self.assertEqual(wood, LIST)
        self.assertEqual(read_turning(wood, EXAMPLE), (LIST, call(0), EXAMPLE_MODES))

    def test_two_that_were_told(self):
        first = read_turning(LIST, EXAMPLE)
        second = read_turning(LIST, EXAMPLE)
        first[0].clear()
        first[2][1][1].clear()
        first[2].clear()
        self.assertEqual(second, (LIST, call(0), EXAMPLE_MODES))


class TestNoText(ReadCase):
    def test_no_words(self):
        self.refused(NoText, LIST, "", " ", "    ")

    def test_no_start(self):
        self.refused(NoText, LIST, ";", "; m num n : n", ";a", " ; ; a", "m num n : n", "a; ; m num n : n", "a;", "a; ")

    def test_a_rule_without_one_of_its_words(self):
        self.refused(NoText, LIST, "a; num n : n", "a; m n : n", "a; : n", "a; m num n n", "a; m num n :", "a; m num n",
                     "a; m num : n", "a; m : n", "a; m num n : ;", "a; m", "a; m num", "a; m num n : ; m num n : n",
                     "a; m num n =: n", "a; m num n : : n", "a; m num n : n : n", "a; m num n x : n", "a; n")

    def test_numbers_and_signs_for_names(self):
        self.refused(NoText, LIST, "a; 5 num n : n", "a; m 5 n : n", "a; m num 5 : n", "a; m1 num n : n",
                     "a; m num1 n : n", "a; m num n1 : n", "a; m num n= : n", "a; *m num n : n", "a; *m0 num n : n",
                     "a; (m num n) : n", "a; m num n(x) : n", "a; m = num n : n", "a; m num n | n",
                     "a; m num n = n", "a; m; num n : n", "a, m num n : n")

    def test_calls(self):
        for wrong in ["*", "*q", "*0", "* 5", "*q(a)", "*q0(a)", "*q0 0", "*q=0", "*q=", "**q0", "*q*0", "q*0", "a*",
                      "*(q0)", "*q0=", "*q0=1", "*q0 5", "a(*)", "a(*q)", "a(*0)", "a(*q b)", "a(*q0(b))", "a(*q0=)",
                      "*q-", "*q0*q0", "*q0 *q0", "a*q0", "a5*q0"]:
            self.refused(NoText, LIST, wrong, EXAMPLE.replace("*q0", wrong), "a; m num n : " + wrong)

    def test_puts(self):
        for wrong in ["5", "=", "=5", "5a", "=a", "a==", "a==5", "a=5=", "a5=", "a5=5", "a5 5", "a=5 5", "a= =",
                      "a-5-5", "a=(", "a:", "a|b", "a b", "a=b", "a(b)5", "a(b)=", "a(b)c", "a(b)(c)", "a(=)", "a(5)",
                      "a(b 5 5)", "a(b|c)", "a(b:c)", "a(b;c)", "a=5a", "a*", "a*5"]:
            self.refused(NoText, LIST, wrong, "a; m num n : " + wrong, EXAMPLE.replace("n=1", wrong))

    def test_empty_brackets(self):
        self.refused(NoText, LIST, "()", "a()", "a5()", "a=()", "a( )", "(a)", "a(())", "a((b))", "a(b())",
                     "a; m num n : n()", "a; m num n : (n)", "a; m num n : n=5()", "*q0()")

    def test_brackets_without_an_end_or_a_beginning(self):
        self.refused(NoText, LIST, "(", ")", "a(", "a(b", "a(b c", "a(b(c)", "a)", "a(b))", "a b)", "a; m num n : n(",
                     "a; m num n : n(a", "a(b; m num n : n", "a; m num n : n(a; m num n : n)", "a; m num n : n)",
                     "a(" * 1900, "a(" * 1900 + "a", "a" + ")" * 3000, "a; m num n : " + "a(" * 1900)

    def test_something_behind_the_end(self):
        for more in [";", " a", " 5", "()", "(a", ")", ":", "=", "|", "*", "*q0", " m num n : n", "; ;", "; x", " 5 5",
                     "(a)(b)", "(a)b", "(a)5", "(a)="]:
            self.refused(NoText, LIST, EXAMPLE + more)

    def test_too_many_rules(self):
        self.refused(NoText, ONE, rules_text(41), rules_text(42), rules_text(200), "s" + "; a t l : l" * 41,
                     "s" + "; a t x : l" * 41, "*q0" + "; a b c : d" * 41)

    def test_too_many_puts_and_calls(self):
        self.refused(NoText, ONE, wide_text(121), wide_text(122), wide_text(1900),
                     wide_text(20) + "; a t l : " + wide_text(60) + "; b t l : " + wide_text(41),
                     "s; a t l : " + wide_text(120), "a(" + "*a0 " * 119 + "); a t l : a",
                     rules_text(39) + "; zz t l : " + wide_text(81))
        self.assertIsNone(asked(ONE, rules_text(39) + "; zz t l : " + wide_text(80)))

    def test_brackets_too_deep(self):
        self.refused(NoText, ONE, deep_text(9), deep_text(10), deep_text(50), "s; a t l : " + deep_text(9),
                     "a(b " + deep_text(8) + ")", "a(" + deep_text(8) + " b)", deep_text(9, "*q0"), deep_text(1300),
                     "s; a t l : l; b t l : a(" + deep_text(7) + deep_text(8) + ")", "(" * 4000)

    def test_what_words_refuses(self):
        for wrong in ["A", "a-", "a -", "a- 5", "a-0", "a00", "a05", "abcdefghi", "a" + "1" * 61, "a=" + "1" * 61,
                      "a-" + "1" * 61, "*q00", "*q-0", "*q" + "1" * 61, "a,b", "a[b]", "a\n", "a\t", "\u00e9",
                      "a\u0665", "a.5", "a+5", "a(b,c)", "a # b"]:
            self.refused(NoText, LIST, wrong, "a; m num n : " + wrong)
        self.refused(NoText, LIST, EXAMPLE + "\n", EXAMPLE + ".", "a; abcdefghi num n : n", "a; m num n\t: n")

    def test_no_text(self):
        self.refused(NoText, LIST, None, 0, 5, True, [], ["a"], ("put", "a", False, 0, ()), {}, b"a", 1.5, object(),
                     read_turning(LIST, EXAMPLE))

    def test_a_refusal_changes_no_later_answer(self):
        before = copy.deepcopy(LIST)
        self.refused(NoText, LIST, EXAMPLE + ";")
        self.refused(NoTurning, LIST, EXAMPLE + "; m num n : n")
        self.assertEqual(LIST, before)
        self.assertEqual(read_turning(LIST, EXAMPLE), (LIST, call(0), EXAMPLE_MODES))


# Texts in the form of a turning, for LIST, each with one fault.
FAULTS = {
    "a kind that isn't in the wood": [
        "a; m x n : n", "a; m n n : n", "a; m cons n : n", "a; m nums n : n", EXAMPLE.replace("m num", "m nun")],
    "a name in none of the kind's rows": [
        "a; m num x : n", "a; m num num : n", "a; m num nil : n", "a; m num n : n; m num x : n",
        EXAMPLE + "; q list n : nil", EXAMPLE.replace("list nil", "list ni")],
    "a mode with rules of two kinds": [
        EXAMPLE.replace("m num n", "q num n").replace("*m0", "x"), EXAMPLE + "; m list nil : nil",
        "a; m num n : n; m list nil : nil; m list cons : nil", "a; m list nil : nil; m num n : n; m list cons : nil"],
    "two rules for one row": [
        EXAMPLE + "; m num n : n=1", EXAMPLE + "; q list nil : nil", EXAMPLE + "; q list cons : nil",
        "a; m num n : n; m num n : n", "a; q list nil : nil; q list nil : nil"],
    "none for a row": [
        "*q0; q list nil : nil", "*q0; q list cons : *q1", "a; q list nil : nil", EXAMPLE + "; s list nil : nil",
        EXAMPLE.replace("q list nil : nil; ", "")],
    "a call by a mode without rules": [
        "*q0", "a(b *q0)", "*r0; " + EXAMPLE[5:], EXAMPLE.replace("*m0", "*r0"), EXAMPLE.replace("*q1", "x(y *r1)"),
        EXAMPLE + "; s list nil : nil; s list cons : *list1", EXAMPLE.replace("*q0", "*cons0"),
        EXAMPLE.replace("*q0", "*qq0")],
    "a call on a branch below 0": [
        EXAMPLE.replace("*q0", "*q-1"), EXAMPLE.replace("*q1", "*q-1"), EXAMPLE.replace("*m0", "*m-2"),
        EXAMPLE.replace("*q1", "x(y(*q-1))"), EXAMPLE.replace("*q0", "x(*q0 *q-1)"), EXAMPLE.replace("*m0", "*m-1")],
    "a call on a branch that is too great": [
        EXAMPLE.replace("*q0", "*q1"), EXAMPLE.replace("*q1", "*q2"), EXAMPLE.replace("*m0", "*m2"),
        EXAMPLE.replace("n=1", "*m0"), EXAMPLE.replace(": nil", ": x(*q1)"), EXAMPLE.replace("*q1", "*q" + "9" * 60),
        EXAMPLE.replace("*q0", "x(*q0 y(*q2))"), EXAMPLE.replace("*q0", "*q" + "9" * 60)],
    "a call on a branch of another kind": [
        EXAMPLE.replace("*m0", "*q0", 1), EXAMPLE.replace("*q1", "*m1"), EXAMPLE.replace("*m0", "*m1"),
        EXAMPLE.replace("*q1", "*q0"), EXAMPLE.replace("*q0", "*m0"), EXAMPLE.replace("*q0", "x(*q0 y(*m0))"),
        EXAMPLE.replace("*q1", "x(y(*q1 *q0))")],
    "a kept mark in the start": [
        "a=", "a=0", "a=5", "a=-5", "a(b c=)", "a(b(c(d=1)) e)", "a(b= c)", EXAMPLE.replace("*q0", "x=(*q0)"),
        EXAMPLE.replace("*q0", "x(*q0 y(z=))"), "a=; m num n : n"],
}


class TestNoTurning(ReadCase):
    def test_each_fault(self):
        for fault, texts in FAULTS.items():
            with self.subTest(fault=fault):
                self.refused(NoTurning, LIST, *texts)

    def test_a_name_of_another_kind(self):
        self.refused(NoTurning, WOOD, TURN.replace("q u turn", "q u node"), TURN.replace("p t pair", "p t turn"),
                     TURN + "; q u end : a", TURN.replace("v v end", "v v leaf"))
        self.assertIsNone(asked(WOOD, TURN))

    def test_a_mode_of_kinds_that_share_a_name(self):
        self.refused(NoTurning, WOOD, "a; m t leaf : a; m u turn : a", "a; m u leaf : a; m t leaf : a; m u turn : b",
                     "a; m t leaf : a; m t node : a; m t pair : a; m u leaf : a")

    def test_the_first_kind_of_the_wood_counts(self):
        wood = read_wood("num = n; list = nil | cons(num list)")
        self.refused(NoTurning, wood, EXAMPLE)
        self.assertIsNone(asked(wood, EXAMPLE.replace("*q0", "*m0")))

    def test_of_another_wood(self):
        self.refused(NoTurning, ONE, EXAMPLE)
        self.refused(NoTurning, LIST, "s; a t l : l", TURN)

    def test_no_text_is_ahead(self):
        more = [";", ")", " 5 5", "; x", "; m num n :", "; m num n : n(", "; m num n : *q", "; m num n : A", " -",
                "; m num n : " + deep_text(9), "; m num n : " + wide_text(121), "; m num n : n" * 41]
        for texts in FAULTS.values():
            for text in texts:
                self.refused(NoText, LIST, *[text + each for each in more])
                self.refused(NoText, LIST, "(" + text, ";" + text, "= " + text, text.replace(";", ":", 1) + " :")


class TestWordByWord(unittest.TestCase):
    def test_all_short_terms(self):
        for many in range(6):
            for found in itertools.product(["a", "5", "=", "*", "(", ")"], repeat=many):
                expected = as_expected(ONE, found)
                self.assertIs(asked(ONE, " ".join(found)), expected, found)
                self.assertIs(asked(ONE, " ".join(["a", ";", "a", "t", "l", ":"] + list(found))),
                              as_expected(ONE, ["a", ";", "a", "t", "l", ":"] + list(found)), found)

    def test_one_word_changed(self):
        others = ["", "(", ")", ";", ":", "=", "|", "*", "q", "m", "s", "p", "list", "num", "n", "nil", "t", "leaf",
                  "0", "1", "-1", "* q", "* q 0", "* m 0", "* s 1", "= 1", "x ( y )"]
        seen = {}
        for wood, text in [(LIST, EXAMPLE), (WOOD, TURN)]:
            found = words(text)
            self.assertIsNone(as_expected(wood, found))
            for spot in range(len(found) + 1):
                for other in others:
                    for length in [0, 1]:
                        changed = found[:spot] + other.split() + found[spot + length:]
                        expected = as_expected(wood, changed)
                        self.assertIs(asked(wood, " ".join(changed)), expected, changed)
                        seen[expected] = seen.get(expected, 0) + 1
        self.assertGreater(min(seen[NoText], seen[NoTurning], seen[None]), 20)


class TestShowTurning(unittest.TestCase):
    def test_the_example(self):
        self.assertEqual(show_turning(read_turning(LIST, EXAMPLE)),
                         "*a0; a list cons : cons(*b0 *a1); a list nil : nil; b num n : n=1")

    def test_several_kinds(self):
        self.assertEqual(show_turning(read_turning(WOOD, TURN)), "; ".join([
            "top7(*a0 in(*d0 *a0))",
            "a t leaf : d-4", "a t node : e(*a0 *d1 f(*b2 *b2))", "a t pair : *c1",
            "b u leaf : a=", "b u turn : b(c=5(*a0) *d0)",
            "c v end : call(put=-3)",
            "d t leaf : h", "d t node : *d1", "d t pair : i(j(k(*b0)) *c1)",
        ]))

    def test_marks(self):
        for mark, plain, kept in [(0, "a", "a="), (5, "a5", "a=5"), (-5, "a-5", "a=-5"), (10, "a10", "a=10"),
                                  (MOST, "a" + "9" * 60, "a=" + "9" * 60), (-MOST, "a-" + "9" * 60, "a=-" + "9" * 60)]:
            self.assertEqual(show_turning((LIST, put("a", add=mark), [])), plain)
            self.assertEqual(show_turning((LIST, put("x", put("a", put("b"), add=mark), put("c")), [])),
                             f"x({plain}(b) c)")
            for rule, shown in [(put("a", kept=True, add=mark), kept),
                                (put("a", put("a", add=mark), kept=True, add=mark), f"{kept}({plain})"),
                                (put("b", put("a", kept=True, add=mark)), f"b({kept})")]:
                self.assertEqual(show_turning((LIST, put("s"), [("num", [rule])])), f"s; a num n : {shown}")

    def test_no_modes(self):
        self.assertEqual(show_turning((LIST, put("a"), [])), "a")
        self.assertEqual(show_turning((LIST, put("put", put("call"), put("b", put("c"))), [])), "put(call b(c))")

    def test_modes_that_are_not_called(self):
        self.assertEqual(show_turning((LIST, put("a"), EXAMPLE_MODES)),
                         "a; a list cons : cons(*b0 *a1); a list nil : nil; b num n : n=1")

    def test_names_of_modes(self):
        for many in [1, 25, 26, 27, 52, 53, 200]:
            modes = [("t", [put("l", add=number)]) for number in range(many)]
            shown = show_turning((ONE, call(many - 1), modes)).split("; ")
            self.assertEqual(shown[0], "*" + by_name(many - 1) + "0")
            self.assertEqual([row.split()[0] for row in shown[1:]], [by_name(number) for number in range(many)])
            self.assertEqual(show_turning((ONE, put("a", *[call(number) for number in range(many)]), [])),
                             "a(" + " ".join(["*" + by_name(number) + "0" for number in range(many)]) + ")")

    def test_known_names_of_modes(self):
        modes = [("t", [put("l")])] * 200
        known = [(0, "a"), (1, "b"), (25, "z"), (26, "ba"), (27, "bb"), (51, "bz"), (52, "ca"), (199, "hr")]
        for number, name in known:
            shown = show_turning((ONE, call(number), modes)).split("; ")
            self.assertEqual(shown[0], "*" + name + "0")
            self.assertEqual(shown[number + 1], name + " t l : l")

    def test_branches(self):
        wood = read_wood("t = l | n(t t t t)")
        modes = [("t", [put("l"), put("a", call(0, 3), call(0, 0), put("b", call(0, 2)))])]
        self.assertEqual(show_turning((wood, call(0), modes)), "*a0; a t l : l; a t n : a(*a3 *a0 b(*a2))")

    def test_beyond_what_is_read(self):
        self.assertEqual(show_turning((ONE, line_term(60, put("b")), [])), deep_text(59))
        self.assertEqual(show_turning((ONE, put("a", *[put("b")] * 399), [])), wide_text(400))

    def test_what_is_shown_is_read_and_shown_likewise(self):
        chance = random.Random(5)
        for number in range(200):
            wood = [LIST, WOOD, ONE][number % 3]
            turning = grown_turning(chance, wood, chance.randrange(1, 6), 4)
            before = copy.deepcopy(turning)
            shown = show_turning(turning)
            if term_size(turning[1]) + sum(term_size(rule) for kind, rules in turning[2] for rule in rules) <= 120:
                self.assertEqual(read_turning(wood, shown), turning)
                self.assertEqual(show_turning(read_turning(wood, shown)), shown)
            self.assertEqual(show_turning(turning), shown)
            self.assertEqual(turning, before)
        for wood, text in [(LIST, EXAMPLE), (WOOD, TURN), (ONE, rules_text(40))]:
            shown = show_turning(read_turning(wood, text))
            self.assertEqual(show_turning(read_turning(wood, shown)), shown)


if __name__ == "__main__":
    unittest.main()
