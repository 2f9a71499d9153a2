import copy
import random
import unittest

from tests.helper import (ADDED, LINE, LIST, MOST, NO_LISTS, TURN, WOOD, call, grown_tree, grown_turning, line,
                          line_term, made, put, wide_term)
from turnery.errors import NoTree, TooGreat
from turnery.running import reached, turned, turned_in
from turnery.trees import levels, size
from turnery.treetexts import read_tree, show_tree
from turnery.turntexts import read_turning
from turnery.woods import read_wood

ONE = read_wood("t = l")


def line_turning(start, leaf, node):
    """A turning of LINE's, of one mode."""
    return (LINE, start, [("t", [leaf, node])])


class TestTurned(unittest.TestCase):
    def shows(self, turning, *pairs):
        for text, told in pairs:
            with self.subTest(text=text):
                self.assertEqual(show_tree(turned(turning, read_tree(text))), told)

    def shows_in(self, turning, mode, *pairs):
        for text, told in pairs:
            with self.subTest(mode=mode, text=text):
                self.assertEqual(show_tree(turned_in(turning, mode, read_tree(text))), told)

    def test_the_example(self):
        self.shows(ADDED, ("nil", "nil"), ("nil5", "nil"), ("cons(n nil)", "cons(n1 nil)"),
                   ("cons3(n5 cons(n-1 nil))", "cons(n6 cons(n nil))"))
        self.shows_in(ADDED, 0, ("nil5", "nil"), ("cons3(n5 nil7)", "cons(n6 nil)"))
        self.shows_in(ADDED, 1, ("n", "n1"), ("n-2", "n-1"))

    def test_no_modes(self):
        for start, told in [(put("a"), ("a", 0, ())), (put("a", put("b", add=5), add=-3), ("a", -3, (("b", 5, ()),)))]:
            for text in ["nil", "cons5(n5 nil5)"]:
                self.assertEqual(turned((LIST, start, []), read_tree(text)), told)

    def test_calls_alone(self):
        turning = read_turning(WOOD, "*p0; p t leaf : a=; p t node : *p1; p t pair : *q0; "
                                     "q u leaf : b=; q u turn : *p0")
        self.shows(turning, ("leaf3", "a3"), ("node(leaf1 leaf2 leaf3)", "a2"), ("pair(leaf4 end)", "b4"),
                   ("node(leaf pair(turn(node(leaf leaf9 leaf)) end) leaf)", "a9"))

    def test_puts_alone(self):
        turning = read_turning(LINE, "x(*q0); q t l : a5(b=1 c); q t n : d=(e(f=-2) g)")
        self.shows(turning, ("l", "x(a5(b1 c))"), ("l9", "x(a5(b10 c))"), ("n(l)", "x(d(e(f-2) g))"),
                   ("n4(n5(l6))", "x(d4(e(f2) g))"))

    def test_puts_within_puts_and_calls(self):
        self.shows(TURN,
                   ("leaf5", "top7(d-4 in(h5 d-4))"),
                   ("pair(leaf end3)", "top7(call(put) in(i(j(k(a)) call(put)) call(put)))"),
                   ("pair(leaf6 end)", "top7(call(put-3) in(i(j(k(a6)) call(put-3)) call(put-3)))"),
                   ("node(leaf1 leaf2 leaf3)", "top7(e(d-4 h2 f(a3 a3)) in(h2 e(d-4 h2 f(a3 a3))))"),
                   ("node(leaf1 leaf2 turn3(leaf4))",
                    "top7(e(d-4 h2 f(b(c8(d-4) h4) b(c8(d-4) h4))) in(h2 e(d-4 h2 f(b(c8(d-4) h4) b(c8(d-4) h4)))))"))

    def test_each_mode(self):
        self.shows_in(TURN, 0, ("leaf5", "d-4"), ("pair5(leaf5 end5)", "call(put2)"))
        self.shows_in(TURN, 1, ("leaf5", "a5"), ("turn5(leaf5)", "b(c10(d-4) h5)"))
        self.shows_in(TURN, 2, ("end3", "call(put)"), ("end", "call(put-3)"))
        self.shows_in(TURN, 3, ("leaf5", "h5"), ("node(leaf leaf-1 turn(leaf))", "h-1"))

    def test_one_branch_by_several_modes_and_one_mode_several_times(self):
        turning = read_turning(LINE, "x(*p0 *q0 *p0); p t l : a=; p t n : y(*p0 *q0 *p0); q t l : b; q t n : *p0")
        self.shows(turning, ("l3", "x(a3 b a3)"), ("n(l3)", "x(y(a3 b a3) a3 y(a3 b a3))"),
                   ("n(n(l3))", "x(y(y(a3 b a3) a3 y(a3 b a3)) y(a3 b a3) y(y(a3 b a3) a3 y(a3 b a3)))"))

    def test_branches_left_out_and_in_another_order(self):
        wood = read_wood("t = l | n(t t t t)")
        turning = read_turning(wood, "*q0; q t l : l=; q t n : n=(*q3 *q0 *q2)")
        self.shows(turning, ("n1(l2 l3 l4 l5)", "n1(l5 l2 l4)"),
                   ("n(n(l1 l2 l3 l4) l5 l6 l7)", "n(l7 n(l4 l1 l3) l6)"))

    def test_a_kept_mark_is_that_of_what_the_rule_reads(self):
        turning = read_turning(LINE, "*q0; q t l : l=; q t n : n=(m= *q0 m=1)")
        self.shows(turning, ("n1(n20(l300))", "n1(m1 n20(m20 l300 m21) m2)"))

    def test_marks_of_sixty_figures(self):
        for mark in [MOST, -MOST, 0, 1, -1]:
            for add in [MOST, -MOST, 0, 1, -1]:
                turning = line_turning(call(0), put("a", kept=True, add=add), put("b", call(0), kept=False, add=add))
                self.assertEqual(turned(turning, ("l", mark, ())), ("a", mark + add, ()))
                self.assertEqual(turned(turning, ("n", mark, (("l", mark, ()),))), ("b", add, (("a", mark + add, ()),)))
        self.assertEqual(turned((LINE, put("a", add=-MOST), []), ("l", MOST, ())), ("a", -MOST, ()))

    def test_trees_of_the_greatest_kind(self):
        same = line_turning(call(0), put("l", kept=True), put("n", call(0, 0), kept=True))
        self.assertEqual(turned(same, line(40)), line(40))
        wood = read_wood("t = l | n(t t t t)")
        same = read_turning(wood, "*q0; q t l : l=; q t n : n=(*q0 *q1 *q2 *q3)")
        tree = ("l", 0, ())
        for mark in range(39):
            tree = ("n", mark, (("l", -mark, ()), tree, ("l", mark, ()), ("l", 7, ())))
        self.assertEqual(turned(same, tree), tree)

    def test_trees_and_terms_that_are_deep(self):
        for deep, many in [(6, 60), (7, 51), (9, 40), (10, 36), (18, 20), (36, 10), (40, 9)]:
            rule = line_term(many - 1, put("x", call(0, 0), put("y", kept=True)))
            kept = line_turning(call(0), put("l", kept=True), rule)
            self.assertRaises(TooGreat, turned, kept, line(deep))
            # Of each of these only the last mark is kept.
            dropped = line_turning(call(0), line_term(many, put("l", kept=True)), call(0, 0))
            self.assertEqual(turned(dropped, line(deep)), made(dropped, call(0), 0, (line(deep),)))

    def test_grown(self):
        chance = random.Random(6)
        great = 0
        for number in range(400):
            wood = [LIST, WOOD, LINE][number % 3]
            turning = grown_turning(chance, wood, chance.randrange(1, 5), 3)
            tree = grown_tree(chance, wood, wood[0][0], 5)
            before = copy.deepcopy((turning, tree))
            expected = made(turning, turning[1], 0, (tree,))
            if size(expected) > 400:
                great += 1
                self.assertRaises(TooGreat, turned, turning, tree)
            else:
                self.assertEqual(turned(turning, tree), expected)
                self.assertEqual(turned(turning, tree), expected)
            for mode, (kind, rules) in enumerate(turning[2]):
                tree = grown_tree(chance, wood, kind, 3)
                expected = made(turning, call(mode), 0, (tree,))
                if size(expected) <= 400:
                    self.assertEqual(turned_in(turning, mode, tree), expected)
            self.assertEqual(turning, before[0])
        self.assertLess(great, 100)

    def test_tuples(self):
        for told in [turned(ADDED, read_tree("cons(n nil)")), turned_in(ADDED, 1, read_tree("n"))]:
            while told:
                self.assertEqual([type(each) for each in told], [str, int, tuple])
                self.assertIs(type(told), tuple)
                told = told[2][0] if told[2] else None

    def test_what_is_handed_in_stays_and_what_was_told_too(self):
        turning = copy.deepcopy(ADDED)
        tree = read_tree("cons3(n5 cons(n-1 nil))")
        told = [turned(turning, tree), turned_in(turning, 0, tree)]
        self.assertEqual((turning, tree), (ADDED, read_tree("cons3(n5 cons(n-1 nil))")))
        turning[2][1][1][0] = put("m", kept=True)
        self.assertEqual(show_tree(turned(turning, tree)), "cons(m5 cons(m-1 nil))")
        turning[0].clear()
        turning[2].clear()
        self.assertEqual([show_tree(each) for each in told], ["cons(n6 cons(n nil))"] * 2)
        self.assertEqual(turned(ADDED, tree), told[0])


class TestTooGreat(unittest.TestCase):
    def makes(self, turning, tree, many, deep):
        told = turned(turning, tree)
        self.assertEqual((size(told), levels(told)), (many, deep))
        self.assertEqual(told, made(turning, turning[1], 0, (tree,)))
        if turning[1] == call(0):
            self.assertEqual(turned_in(turning, 0, tree), told)

    def refuses(self, turning, tree):
        with self.assertRaises(TooGreat) as caught:
            turned(turning, tree)
        self.assertIs(type(caught.exception), TooGreat)
        if turning[1] == call(0):
            self.assertRaises(TooGreat, turned_in, turning, 0, tree)

    def test_names_by_the_start(self):
        leaf = ("l", 0, ())
        self.makes((ONE, wide_term(400), []), leaf, 400, 2)
        self.makes((ONE, wide_term(400, call(0)), [("t", [put("l")])]), leaf, 400, 2)
        self.refuses((ONE, wide_term(400, call(0)), [("t", [put("l", put("l"))])]), leaf)
        self.makes((ONE, wide_term(399, call(0)), [("t", [put("l", put("l"))])]), leaf, 400, 3)
        self.makes((ONE, put("a", *[call(0)] * 133), [("t", [put("l", put("l"), put("l"))])]), leaf, 400, 3)
        self.refuses((ONE, put("a", *[call(0)] * 134), [("t", [put("l", put("l"), put("l"))])]), leaf)
        self.refuses((ONE, put("a", put("b"), *[call(0)] * 133), [("t", [put("l", put("l"), put("l"))])]), leaf)
        self.refuses((ONE, put("a", *[call(0)] * 399), [("t", [wide_term(400)])]), leaf)

    def test_names_by_rules(self):
        # Each level of the tree puts out ten names, its end the rest.
        for many in [39, 19, 3]:
            rest = 400 - (many - 1) * 10
            node = wide_term(10, call(0, 0))
            node = put("a", *node[4], put("c"))
            self.makes(line_turning(call(0), wide_term(rest), node), line(many), 400, many + 1)
            self.refuses(line_turning(call(0), put("a", *[put("b")] * rest), node), line(many))

    def test_names_that_double(self):
        double = line_turning(call(0), put("l", kept=True), put("n", call(0, 0), call(0, 0), kept=True))
        self.makes(double, line(8), 255, 8)
        for deep in [9, 10, 20, 40]:
            self.refuses(double, line(deep))
        aside = line_turning(wide_term(146, call(0)), put("l", kept=True), put("n", call(0, 0), call(0, 0), kept=True))
        self.makes(aside, line(8), 400, 9)
        more = line_turning(wide_term(147, call(0)), put("l", kept=True), put("n", call(0, 0), call(0, 0), kept=True))
        self.refuses(more, line(8))

    def test_levels_by_the_start(self):
        leaf = ("l", 0, ())
        self.makes((ONE, line_term(60, put("b")), []), leaf, 60, 60)
        self.makes((ONE, line_term(60, call(0)), [("t", [put("l")])]), leaf, 60, 60)
        self.refuses((ONE, line_term(60, call(0)), [("t", [put("l", put("l"))])]), leaf)
        self.makes((ONE, line_term(30, call(0)), [("t", [line_term(31, put("l"))])]), leaf, 60, 60)
        self.refuses((ONE, line_term(31, call(0)), [("t", [line_term(31, put("l"))])]), leaf)
        self.refuses((ONE, put("a", put("b"), line_term(30, call(0)), put("c")), [("t", [line_term(31, put("l"))])]),
                     leaf)
        self.refuses((ONE, line_term(60, call(0)), [("t", [line_term(60, put("l"))])]), leaf)

    def test_levels_by_rules(self):
        # Each level of the tree puts out three names, one below the other.
        node = line_term(4, call(0, 0))
        self.makes(line_turning(call(0), line_term(3, put("l")), node), line(20), 60, 60)
        self.refuses(line_turning(call(0), line_term(4, put("l")), node), line(20))
        self.refuses(line_turning(call(0), put("l"), node), line(21))
        self.refuses(line_turning(call(0), put("l"), node), line(40))
        self.refuses(line_turning(put("a", call(0)), line_term(3, put("l")), node), line(20))

    def test_both(self):
        leaf = ("l", 0, ())
        ends = [line_term(59, put("b"))]
        self.makes((ONE, put("a", *ends, *[put("b")] * 340), []), leaf, 400, 60)
        modes = [("t", [put("l", put("l"))])]
        # One name more, and one level more.
        self.refuses((ONE, put("a", *ends, *[put("b")] * 339, call(0)), modes), leaf)
        self.refuses((ONE, put("a", line_term(59, call(0)), *[put("b")] * 339), modes), leaf)

    def test_a_mode_that_is_not_called_may_make_what_is_too_great(self):
        modes = [("t", [put("l"), call(0, 0)]), ("t", [wide_term(400), put("a", call(1, 0), call(1, 0))])]
        self.assertEqual(turned((LINE, call(0), modes), line(40)), ("l", 0, ()))
        self.assertEqual(turned_in((LINE, call(1), modes), 0, line(40)), ("l", 0, ()))
        self.assertRaises(TooGreat, turned_in, (LINE, call(0), modes), 1, line(40))

    def test_the_start_does_not_count_in_a_mode(self):
        turning = (LINE, line_term(60, call(0)), [("t", [put("l", kept=True), put("n", call(0, 0), kept=True)])])
        self.assertRaises(TooGreat, turned, turning, line(40))
        self.assertEqual(turned_in(turning, 0, line(40)), line(40))


class TestNoTree(unittest.TestCase):
    def refuses(self, error, ask, *handed):
        with self.assertRaises(error) as caught:
            ask(*handed)
        self.assertIs(type(caught.exception), error, handed)

    def test_each_fault(self):
        for text in NO_LISTS:
            deep = "cons(n cons(n cons(n cons(n " + text + "))))"
            for each in [text, deep, "cons(n " + text + ")"]:
                self.refuses(NoTree, turned, ADDED, read_tree(each))
                self.refuses(NoTree, turned_in, ADDED, 0, read_tree(each))
        for text in ["nil", "cons(n nil)", "num", "n(n)", "x"]:
            self.refuses(NoTree, turned_in, ADDED, 1, read_tree(text))
            self.refuses(NoTree, turned, ADDED, read_tree(f"cons(n cons({text} nil))"))

    def test_the_kind_of_the_mode_counts(self):
        trees = {"t": "node(leaf leaf leaf)", "u": "turn(leaf)", "v": "end"}
        for mode, (kind, rules) in enumerate(TURN[2]):
            for other, text in trees.items():
                if other == kind:
                    turned_in(TURN, mode, read_tree(text))
                else:
                    self.refuses(NoTree, turned_in, TURN, mode, read_tree(text))
        for kind in ["u", "v"]:
            self.refuses(NoTree, turned, TURN, read_tree(trees[kind]))

    def test_the_first_kind_of_the_wood_counts(self):
        wood = read_wood("num = n; list = nil | cons(num list)")
        turning = read_turning(wood, "*m0; m num n : n=1")
        self.assertEqual(turned(turning, read_tree("n")), ("n", 1, ()))
        self.refuses(NoTree, turned, turning, read_tree("nil"))

    def test_branches_that_no_rule_reads(self):
        turning = read_turning(LIST, "a; q list nil : b; q list cons : b")
        for text in ["cons(nil nil)", "cons(n cons(n n))", "x", "n"]:
            self.refuses(NoTree, turned, turning, read_tree(text))
            self.refuses(NoTree, turned_in, turning, 0, read_tree(text))
            self.refuses(NoTree, turned, (LIST, put("a"), []), read_tree(text))

    def test_ahead_of_too_great(self):
        double = line_turning(call(0), put("l"), put("n", call(0, 0), call(0, 0)))
        for tree in [line(40, end="x"), line(40, name="x"), ("l", 0, (line(39),)), line(40, end="n")]:
            self.refuses(NoTree, turned, double, tree)
            self.refuses(NoTree, turned_in, double, 0, tree)
        great = (LINE, put("a", *[call(0)] * 399), [("t", [wide_term(400), wide_term(400)])])
        for tree in [("x", 0, ()), line(40, end="x")]:
            self.refuses(NoTree, turned, great, tree)
            self.refuses(NoTree, turned_in, great, 0, tree)


class TestReached(unittest.TestCase):
    def told(self, turning, expected):
        before = copy.deepcopy(turning)
        first = reached(turning)
        self.assertEqual(first, expected)
        self.assertIs(type(first), list)
        first.append(7)
        self.assertEqual(reached(turning), expected)
        self.assertEqual(turning, before)

    def test_no_modes(self):
        self.told((LIST, put("a"), []), [])
        self.told((LIST, put("a", put("call"), put("put")), []), [])

    def test_no_calls_in_the_start(self):
        self.told((LIST, put("a", put("b")), ADDED[2]), [])

    def test_the_examples(self):
        self.told(ADDED, [0, 1])
        self.told(TURN, [0, 1, 2, 3])

    def test_called_only_by_modes_that_are_not_reached(self):
        modes = [("t", [put("l"), call(1, 0)]), ("t", [put("l"), put("l")]), ("t", [put("l"), call(1, 0)]),
                 ("t", [put("l"), put("a", call(2, 0), call(3, 0))]), ("t", [put("l"), call(4, 0)])]
        self.told((LINE, call(0), modes), [0, 1])
        self.told((LINE, call(1), modes), [1])
        self.told((LINE, call(2), modes), [1, 2])
        self.told((LINE, call(3), modes), [1, 2, 3])
        self.told((LINE, call(4), modes), [4])
        self.told((LINE, put("a", call(4), call(0)), modes), [0, 1, 4])

    def test_rings(self):
        for many in [1, 2, 3, 7, 200]:
            ring = [("t", [put("l"), call((number + 1) % many, 0)]) for number in range(many)]
            for first in [0, many // 2, many - 1]:
                self.told((LINE, call(first), ring), list(range(many)))
        # Two rings, of modes 0, 2, 4 and of 1, 3, 5.
        rings = [("t", [put("l"), call((number + 2) % 6, 0)]) for number in range(6)]
        self.told((LINE, call(4), rings), [0, 2, 4])
        self.told((LINE, call(3), rings), [1, 3, 5])
        self.told((LINE, put("a", call(5), call(2)), rings), [0, 1, 2, 3, 4, 5])

    def test_calls_deep_in_puts(self):
        modes = [("t", [put("l"), line_term(60, call(2, 0))]), ("t", [put("l"), put("l")]),
                 ("t", [put("l"), put("a", put("b", put("c"), put("d", call(3, 0))))]), ("t", [put("l"), put("l")])]
        self.told((LINE, line_term(60, call(0)), modes), [0, 2, 3])
        self.told((LINE, wide_term(400, call(2)), modes), [2, 3])

    def test_rows_of_each_place(self):
        wood = read_wood("t = a | b(t) | c(t) | d(t)")
        for row in [1, 2, 3]:
            rules = [put("l")] * 4
            rules[row] = call(1, 0)
            self.told((wood, call(0), [("t", rules), ("t", [put("l")] * 4)]), [0, 1])

    def test_rising_and_each_once(self):
        modes = [("t", [put("l"), put("a", call(199 - number, 0), call((number * 7 + 3) % 200, 0), call(0, 0))])
                 for number in range(200)]
        told = reached((LINE, put("a", call(150), call(3), call(150)), modes))
        self.assertEqual(told, sorted(set(told)))
        self.assertGreater(len(told), 10)

    def test_grown(self):
        chance = random.Random(7)
        for number in range(200):
            wood = [LIST, WOOD, LINE][number % 3]
            turning = grown_turning(chance, wood, chance.randrange(1, 9), 2)
            self.told(turning, self.by_rounds(turning))

    def by_rounds(self, turning):
        """The reached modes, by the words of their terms as texts, until a round adds none."""
        def modes_in(term):
            shown = repr(term).split("('call', ")[1:]
            return {int(piece.split(",")[0]) for piece in shown}

        found = modes_in(turning[1])
        for _ in range(len(turning[2])):
            found |= {mode for each in found for rule in turning[2][each][1] for mode in modes_in(rule)}
        return sorted(found)


if __name__ == "__main__":
    unittest.main()
