import copy
import itertools
import random
import unittest

from tests.helper import (ABC, ADDED, LINE, LIST, MOST, SHARED, THREE, TURN, all_trees, asked_twice, call, grown_tree,
                          grown_turning, line, made, odd_at_the_end, put, refuses, ring, spoil, turning_into, wide_term)
from turnery.errors import TooGreat
from turnery.sources import handed_on, source, wanted
from turnery.trees import at, levels, places, put_at, size
from turnery.treetexts import read_tree
from turnery.turntexts import read_turning
from turnery.woods import is_of, read_wood

TWO = read_wood("t = l | n(t t)")


def tree_of(turning, tree):
    return made(turning, turning[1], 0, (tree,))


def going_onto(term, tree, mark):
    """The calls with what they stand against, where with the mark the term goes onto the tree; else None."""
    if term[0] == "call":
        return [(term[1], term[2], tree)]
    if (term[1], term[3] + mark if term[2] else term[3], len(term[4])) != (tree[0], tree[1], len(tree[2])):
        return None
    below = [going_onto(part, branch, mark) for part, branch in zip(term[4], tree[2])]
    return None if None in below else sum(below, [])


def wants_of(kinds, calls):
    """The wants for branches of these kinds, or None where one mode is wanted to make two unlike trees of one."""
    needed = [{} for kind in kinds]
    for mode, branch, tree in calls:
        if needed[branch].setdefault(mode, tree) != tree:
            return None
    return [(kind, sorted(each.items())) for kind, each in zip(kinds, needed)]


def handed_by_words(turning, want, name, marks=range(-30, 31)):
    rows = dict(turning[0])[want[0]]
    if name not in dict(rows):
        return None
    number = [row[0] for row in rows].index(name)
    for mark in marks:
        found = [going_onto(turning[2][mode][1][number], tree, mark) for mode, tree in want[1]]
        if None not in found:
            return wants_of(dict(rows)[name], sum(found, []))
    return None


def arising(turning, first):
    """The wants that arise, with the lists of the wants that rows hand on for each."""
    wants, handed = [first], []
    for want in wants:
        told = [handed_by_words(turning, want, name) for name, kinds in dict(turning[0])[want[0]]]
        handed.append([each for each in told if each is not None])
        for each in sum(handed[-1], []):
            if each not in wants:
                wants.append(each)
    return wants, handed


def needed_levels(wants, handed):
    """By wants' places the levels that are needed to meet them; of those that no tree meets nothing."""
    told = {}
    for many in itertools.count(1):
        more = [number for number, rows in enumerate(handed) if number not in told and any(
            all(wants.index(each) in told for each in row) for row in rows)]
        if not more:
            return told
        told.update(dict.fromkeys(more, many))


class SourceCase(unittest.TestCase):
    def comes_from(self, turning, tree, many=None):
        """The source that is told, which is looked at."""
        told = asked_twice(self, source, turning, tree)
        self.assertEqual((type(told), len(told), told[0]), (tuple, 2, "from"))
        self.assertTrue(is_of(turning[0], turning[0][0][0], told[1]))
        self.assertEqual(tree_of(turning, told[1]), tree)
        if many is not None:
            self.assertEqual(levels(told[1]), many)
        return told[1]

    def comes_from_none(self, turning, tree, wants):
        self.assertEqual(asked_twice(self, source, turning, tree), ("none", wants))

    def text(self, wood, text):
        return read_turning(read_wood(wood), text)


class TestWanted(SourceCase):
    def test_the_example(self):
        tree = read_tree("cons(n6 nil)")
        self.assertEqual(wanted(ADDED, tree), ("list", [(0, tree)]))
        self.assertEqual(wanted(ADDED, read_tree("x")), ("list", [(0, read_tree("x"))]))
        self.assertEqual(wanted(TURN, read_tree("top7(a in(b5 a))")), ("t", [(0, ("a", 0, ())), (3, ("b", 5, ()))]))
        for text in ["top7(a in(b5 c))", "top7(a in(b a1))", "top6(a in(b a))", "top(a in(b a))", "x7(a in(b a))",
                     "top7(a)", "top7(a in(b a) c)", "top7(a in(b))", "top7(a in(b a a))", "top7(a in1(b a))",
                     "top7", "a", "top7(a ni(b a))", "top7(in(b a) a)"]:
            self.assertIsNone(wanted(TURN, read_tree(text)), text)

    def test_starts_without_calls(self):
        for text in ["a", "a5", "a-3(b c(d7))"]:
            turning = read_turning(LINE, text)
            self.assertEqual(wanted(turning, read_tree(text)), ("t", []))
            for other in ["b", "a1", "a(b)", "a-3(b c(d))", "a-3(b c d)", "a-3(b)"]:
                self.assertIsNone(wanted(turning, read_tree(other)))
        self.assertEqual(wanted((LIST, put("a", add=-MOST), []), ("a", -MOST, ())), ("list", []))
        self.assertIsNone(wanted((LIST, put("a", add=-MOST), []), ("a", MOST, ())))

    def test_two_calls_of_one_mode(self):
        turning = read_turning(LINE, "z(*q0 y(*q0) *r0); q t l : a; q t n : a; r t l : a; r t n : a")
        for one, other, last, told in [("a", "a", "b", [(0, "a"), (1, "b")]), ("a5(b c)", "a5(b c)", "a", None),
                                       ("a", "b", "c", ()), ("a5", "a", "a", ()), ("a(b)", "a(b1)", "c", ()),
                                       ("b", "b", "b", [(0, "b"), (1, "b")])]:
            found = wanted(turning, read_tree(f"z({one} y({other}) {last})"))
            if told == ():
                self.assertIsNone(found)
            elif told is None:
                self.assertEqual(found, ("t", [(0, read_tree(one)), (1, read_tree(last))]))
            else:
                self.assertEqual(found, ("t", [(mode, read_tree(text)) for mode, text in told]))

    def test_by_rising_modes(self):
        modes = [("t", [put("l"), put("l")])] * 120
        for order in [(2, 0, 1), (1, 0, 2), (110, 20, 3), (11, 2, 100), (9, 10, 8, 9, 10)]:
            start = put("z", *[call(mode) for mode in order])
            tree = ("z", 0, tuple(("x", mode, ()) for mode in order))
            self.assertEqual(wanted((LINE, start, modes), tree),
                             ("t", [(mode, ("x", mode, ())) for mode in sorted(set(order))]))

    def test_the_kind_is_the_first(self):
        turning = self.text("u = e | f(t); t = l | n(t)", "z(*q0); q u e : a; q u f : b")
        self.assertEqual(wanted(turning, read_tree("z(c)")), ("u", [(0, ("c", 0, ()))]))
        self.assertEqual(wanted((turning[0], put("a"), []), read_tree("a")), ("u", []))

    def test_great_trees(self):
        turning = (LINE, wide_term(400, call(0)), ADDED[2])
        tree = ("a", 0, (("b", 0, ()),) * 398 + (line(40),))
        self.assertEqual(wanted(turning, tree), ("t", [(0, line(40))]))
        self.assertIsNone(wanted(turning, ("a", 0, (("b", 0, ()),) * 397 + (line(40),))))


class TestHandedOn(SourceCase):
    def hands(self, turning, want, name, told):
        self.assertEqual(asked_twice(self, handed_on, turning, want, name), told)
        self.assertEqual(handed_by_words(turning, want, name), told)

    def want(self, kind, *pairs):
        return (kind, [(mode, read_tree(text)) for mode, text in pairs])

    def test_the_example(self):
        want = self.want("list", (0, "cons(n6 cons(n nil))"))
        self.hands(ADDED, want, "cons", [self.want("num", (1, "n6")), self.want("list", (0, "cons(n nil)"))])
        self.hands(ADDED, want, "nil", None)
        self.hands(ADDED, self.want("list", (0, "nil")), "nil", [])
        self.hands(ADDED, self.want("num", (1, "n6")), "n", [])
        self.hands(ADDED, self.want("num", (1, "n6(a)")), "n", None)
        self.hands(ADDED, self.want("num", (1, "m6")), "n", None)

    def test_names_without_a_row(self):
        for name in ["n", "list", "x", "con", "consx"]:
            self.hands(ADDED, ("list", []), name, None)
            self.hands(ADDED, self.want("list", (0, "nil")), name, None)
        for name in ["nil", "cons"]:
            self.hands(ADDED, ("num", []), name, None)
            self.hands(ADDED, self.want("num", (1, "n")), name, None)

    def test_wants_without_pairs(self):
        self.hands(ADDED, ("list", []), "cons", [("num", []), ("list", [])])
        self.hands(ADDED, ("list", []), "nil", [])
        self.hands(ADDED, ("num", []), "n", [])
        self.hands(TURN, ("t", []), "node", [("t", []), ("t", []), ("u", [])])
        self.hands((LINE, put("a"), []), ("t", []), "n", [("t", [])])

    def test_branches_that_no_rule_calls(self):
        turning = self.text("t = l | n(t u t); u = e", "*q0; q t l : a; q t n : b(*q2)")
        self.hands(turning, self.want("t", (0, "b(c)")), "n", [("t", []), ("u", []), self.want("t", (0, "c"))])
        self.hands(turning, self.want("t", (0, "b")), "n", None)

    def test_several_modes(self):
        turning = self.text("t = l | n(t t)", "z(*p0 *q0 *r0); p t l : a; p t n : b(*q0 *r1); q t l : a; "
                            "q t n : *q0; r t l : c; r t n : d(*p1 *q0 *p0)")
        self.hands(turning, self.want("t", (0, "b(x y)"), (1, "x"), (2, "d(v x w)")), "n",
                   [self.want("t", (0, "w"), (1, "x")), self.want("t", (0, "v"), (2, "y"))])
        # Of the first branch the mode q would have to make two unlike trees.
        self.hands(turning, self.want("t", (0, "b(x y)"), (1, "x1"), (2, "d(v x w)")), "n", None)
        self.hands(turning, self.want("t", (0, "b(x y)"), (1, "x"), (2, "d(v z w)")), "n", None)
        self.hands(turning, self.want("t", (1, "x"), (2, "d(v x v)")), "n",
                   [self.want("t", (0, "v"), (1, "x")), self.want("t", (0, "v"))])
        self.hands(turning, self.want("t", (0, "a"), (1, "a"), (2, "c")), "l", [])
        self.hands(turning, self.want("t", (0, "a"), (1, "a"), (2, "a")), "l", None)
        self.hands(turning, self.want("t", (0, "a"), (2, "d(a a a)")), "l", None)
        self.hands(turning, self.want("t", (0, "a"), (2, "d(a a a)")), "n", None)

    def test_one_mode_and_one_branch(self):
        turning = self.text("t = l | n(t t)", "*q0; q t l : a; q t n : b(*q0 *q0 *q1)")
        self.hands(turning, self.want("t", (0, "b(x(y) x(y) z)")), "n",
                   [self.want("t", (0, "x(y)")), self.want("t", (0, "z"))])
        for text in ["b(x(y) x(z) z)", "b(x x1 z)", "b(x x(x) z)"]:
            self.hands(turning, self.want("t", (0, text)), "n", None)

    def test_marks(self):
        turning = self.text("t = l | n(t)", "z(*p0 *q0 *r0); p t l : a=; p t n : a=2(b= *p0); q t l : c3; "
                            "q t n : d(e=-1 *q0); r t l : f=1(g=2); r t n : h=")
        for pairs, told in [([(0, "a5")], True), ([(0, "a")], True), ([(0, "a-5")], True), ([(1, "c3")], True),
                            ([(1, "c")], False), ([(1, "c4")], False), ([(2, "f6(g7)")], True),
                            ([(2, "f6(g6)")], False), ([(2, "f(g1)")], True), ([(2, "f1(g2)")], True),
                            ([(2, "f2(g2)")], False),
                            ([(0, "a5"), (1, "c3")], True), ([(0, "a5"), (2, "f6(g7)")], True),
                            ([(0, "a6"), (2, "f6(g7)")], False), ([(0, "a"), (2, "f6(g7)")], False)]:
            self.hands(turning, self.want("t", *pairs), "l", [] if told else None)
        for pairs, told in [([(0, "a7(b5 x)")], [(0, "x")]), ([(0, "a7(b6 x)")], None), ([(0, "a2(b x)")], [(0, "x")]),
                            ([(1, "d(e5 x)")], [(1, "x")]), ([(1, "d1(e5 x)")], None),
                            ([(0, "a7(b5 x)"), (1, "d(e4 y)")], [(0, "x"), (1, "y")]),
                            ([(0, "a7(b5 x)"), (1, "d(e5 y)")], None), ([(0, "a7(b5 x)"), (2, "h5")], [(0, "x")]),
                            ([(1, "d(e-1 y)"), (2, "h")], [(1, "y")]), ([(1, "d(e-1 y)"), (2, "h1")], None)]:
            self.hands(turning, self.want("t", *pairs), "n", None if told is None else [self.want("t", *told)])

    def test_marks_of_sixty_figures(self):
        turning = (LINE, call(0), [("t", [put("a", put("b", kept=True, add=MOST), kept=True, add=-MOST), put("l")])])
        for mark, told in [(2 * MOST, []), (2 * MOST - 1, None), (0, None)]:
            self.assertEqual(handed_on(turning, ("t", [(0, ("a", 0, (("b", mark, ()),)))]), "l"), told)

    def test_trees_that_a_call_stands_against(self):
        turning = read_turning(LINE, "*q0; q t l : a; q t n : *q0")
        for tree in [read_tree("x"), read_tree("a5(b c)"), line(40), ("a", MOST, ())]:
            self.assertEqual(handed_on(turning, ("t", [(0, tree)]), "n"), [("t", [(0, tree)])])

    def test_grown(self):
        chance = random.Random(80)
        found = []
        for number in range(400):
            wood = [ABC, SHARED, LIST, TWO][number % 4]
            turning = grown_turning(chance, wood, chance.randrange(1, 5), 2)
            kind = chance.choice(wood)[0]
            modes = [mode for mode, each in enumerate(turning[2]) if each[0] == kind]
            tree = grown_tree(chance, wood, kind, 3)
            want = (kind, [(mode, made(turning, call(mode), 0, (tree,)))
                           for mode in modes if chance.random() < 0.7])
            for name, kinds in dict(wood)[kind]:
                told = handed_on(turning, want, name)
                self.assertEqual(told, handed_by_words(turning, want, name))
                self.assertTrue(told is not None or name != tree[0])
                found.append(told is None)
        self.assertGreater(found.count(True), 200)


class TestFrom(SourceCase):
    def test_the_example(self):
        self.assertEqual(source(ADDED, read_tree("cons(n6 cons(n nil))")),
                         ("from", read_tree("cons(n5 cons(n-1 nil))")))
        self.assertEqual(source(ADDED, read_tree("nil")), ("from", read_tree("nil")))
        self.comes_from_none(ADDED, read_tree("cons(n6 n)"), [("list", [(0, read_tree("cons(n6 n)"))]),
                                                             ("list", [(0, read_tree("n"))])])

    def test_starts_without_calls(self):
        turning = read_turning(LIST, "a5(b)")
        self.assertEqual(source(turning, read_tree("a5(b)")), ("from", ("nil", 0, ())))
        self.comes_from_none(turning, read_tree("a5(c)"), [])

    def test_marks(self):
        turning = read_turning(LINE, "z(*p0 *q0); p t l : a=; p t n : b=(*p0); q t l : c=2; q t n : d(*q0)")
        self.assertEqual(source(turning, read_tree("z(b7(b-3(a5)) d(d(c7)))")), ("from", read_tree("n7(n-3(l5))")))
        self.comes_from_none(turning, read_tree("z(a5 c8)"), [wanted(turning, read_tree("z(a5 c8)"))])
        self.comes_from(turning, read_tree("z(a-2 c)"), 1)
        for mark in [MOST, -MOST]:
            tree = ("z", 0, (("a", mark, ()), ("c", mark + 2, ())))
            self.assertEqual(source(turning, tree), ("from", ("l", mark, ())))

    def test_as_few_levels_as_can_be(self):
        turning = read_turning(LINE, "*q0; q t l : a; q t n : *r0; r t l : b; r t n : *s0; s t l : a; s t n : b")
        self.comes_from(turning, read_tree("a"), 1)
        self.comes_from(turning, read_tree("b"), 2)
        # Its first row needs more levels than its last.
        turning = self.text("t = l | m(t) | n(t)",
                            "*q0; q t l : x; q t m : *r0; q t n : a; r t l : x; r t m : a; r t n : x")
        self.comes_from(turning, read_tree("a"), 2)
        turning = self.text("t = l | m(t t) | n(t)", "*q0; q t l : a; q t m : b(*q0 *q1); q t n : b(a b(*q0 *q0))")
        self.comes_from(turning, read_tree("b(a b(a a))"), 2)
        self.comes_from(turning, read_tree("b(b(a a) b(a a))"), 3)

    def test_of_trees_that_no_rule_looks_at(self):
        turning = self.text("t = l | n(u t); u = e | f(t t)", "*q0; q t l : a; q t n : b(*q1)")
        self.assertEqual(source(turning, read_tree("b(b(a))")), ("from", read_tree("n(e n(e l))")))

    def test_sixty_names(self):
        turning = read_turning(TWO, "*q0; q t l : l=1; q t n : n=1(*q1 *q0)")
        chance = random.Random(81)
        for names in [1, 3, 29, 59]:
            tree = ("l", 4, ())
            while size(tree) < names:
                tree = ("n", chance.randrange(9), (tree, ("l", chance.randrange(9), ())))
            self.assertEqual(size(tree), names)
            self.assertEqual(self.comes_from(turning, tree_of(turning, tree)), tree)
        wide = (LINE, put("z", *[call(mode) for mode in range(59)]), [
            ("t", [put("a", kept=True, add=mode), put("b", kept=True, add=-mode)]) for mode in range(59)])
        for tree in [("l", 3, ()), ("n", -7, (("l", 0, ()),))]:
            self.assertEqual(self.comes_from(wide, tree_of(wide, tree)), tree)
            wrong = put_at(tree_of(wide, tree), (58,), ("a", 0, ()))
            self.comes_from_none(wide, wrong, [wanted(wide, wrong)])

    def test_rings(self):
        for length in [1, 2, 3, 17, 39, 40]:
            self.comes_from(ring(length), read_tree("b"), length)
            if length > 1:
                self.comes_from(ring(length), read_tree("a"), 1)
            wants = [("t", [(mode, read_tree("c"))]) for mode in range(length)]
            self.comes_from_none(ring(length), read_tree("c"), wants)
        turning = read_turning(LINE, "*q0; q t l : x; q t n : *r0; r t l : a; r t n : *q0")
        self.comes_from(turning, read_tree("a"), 2)
        self.comes_from(turning, read_tree("x"), 1)


class TestNone(SourceCase):
    def test_the_start_does_not_go_onto_it(self):
        for text in ["x", "top7(a in(b5 c))", "top(a in(b a))", "d-4"]:
            self.comes_from_none(TURN, read_tree(text), [])
        # Not even where nothing else could be wrong, and where too many wants would arise.
        self.comes_from_none((LINE, put("a", call(0)), ring(200)[2]), read_tree("b(x)"), [])

    def test_the_start_alone(self):
        turning = read_turning(LINE, "z(*q0); q t l : a; q t n : b")
        self.comes_from_none(turning, read_tree("z(c)"), [("t", [(0, ("c", 0, ()))])])
        self.comes_from_none(turning, read_tree("z(a(a))"), [("t", [(0, read_tree("a(a)"))])])

    def test_wants_that_are_met_are_left_out(self):
        turning = self.text("t = l | n(t u t); u = e", "*q0; q t l : a; q t n : b(*q0 *q2)")
        self.comes_from_none(turning, read_tree("b(b(a a) b(a x))"), [
            ("t", [(0, read_tree(text))]) for text in ["b(b(a a) b(a x))", "b(a x)", "x"]])
        self.comes_from_none(turning, read_tree("b(x b(a a))"), [
            ("t", [(0, read_tree(text))]) for text in ["b(x b(a a))", "x"]])
        self.comes_from_none(turning, read_tree("b(x b(y a))"), [
            ("t", [(0, read_tree(text))]) for text in ["b(x b(y a))", "x", "b(y a)", "y"]])

    def test_each_want_once(self):
        turning = read_turning(TWO, "*q0; q t l : a; q t n : b(*q0 *q1)")
        self.comes_from_none(turning, read_tree("b(b(x x) b(x x))"), [
            ("t", [(0, read_tree(text))]) for text in ["b(b(x x) b(x x))", "b(x x)", "x"]])

    def test_the_order(self):
        # Want by want, row by row, branch by branch.
        turning = self.text("t = l | m(t t) | n(t t)", "*q0; q t l : x; q t m : *r1; q t n : c(*s1 *s0); "
                            "r t l : x; r t m : x; r t n : c(*q0 d); s t l : x; s t m : x; s t n : x")
        tree = read_tree("c(y z)")
        wants = [("t", [(0, tree)]), ("t", [(1, tree)]), ("t", [(2, read_tree("z"))]), ("t", [(2, read_tree("y"))])]
        self.comes_from_none(turning, tree, wants)
        tree = read_tree("c(y d)")
        wants = [("t", [(0, tree)]), ("t", [(1, tree)]), ("t", [(2, read_tree("d"))]), ("t", [(2, read_tree("y"))]),
                 ("t", [(0, read_tree("y"))]), ("t", [(1, read_tree("y"))])]
        self.comes_from_none(turning, tree, wants)

    def test_two_unlike_trees_of_one_mode(self):
        turning = read_turning(LINE, "*q0; q t l : a; q t n : b(*q0 *q0)")
        self.comes_from(turning, read_tree("b(b(a a) b(a a))"), 3)
        self.comes_from_none(turning, read_tree("b(b(a a) a)"), [("t", [(0, read_tree("b(b(a a) a)"))])])

    def test_modes_that_can_not_both(self):
        # What the one mode makes and what the other makes come from trees, but not from one tree.
        turning = read_turning(LINE, "z(*p0 *q0); p t l : a; p t n : b; q t l : c; q t n : d")
        self.comes_from_none(turning, read_tree("z(a d)"), [("t", [(0, ("a", 0, ())), (1, ("d", 0, ()))])])
        self.comes_from(turning, read_tree("z(b d)"), 2)


class TestTooGreat(SourceCase):
    def test_a_hundred_wants(self):
        for length in [99, 100]:
            wants = [("t", [(mode, read_tree("c"))]) for mode in range(length)]
            self.comes_from_none(ring(length), read_tree("c"), wants)
            self.comes_from(ring(length), read_tree("a"), 1)
        for length in [101, 102, 200]:
            for text in ["a", "b", "c"]:
                refuses(self, TooGreat, source, ring(length), read_tree(text))

    def test_a_hundred_with_one_without_pairs(self):
        wood = read_wood("t = l | n(t u); u = e")
        for length in [98, 99, 100, 101]:
            turning = (wood, call(0), ring(length)[2])
            if length < 100:
                wants = [("t", [(mode, read_tree("c"))]) for mode in range(length)]
                self.comes_from_none(turning, read_tree("c"), wants)
                self.comes_from(turning, read_tree("a"), 1)
            else:
                refuses(self, TooGreat, source, turning, read_tree("a"))
                refuses(self, TooGreat, source, turning, read_tree("c"))

    def test_a_hundred_of_many_trees(self):
        # Two modes in turn, each of which may stay for what stands below.
        def wants(names):
            modes = [("t", [put("a"), put("b", call(mode, 0)), call((mode + 1) % 5, 0)]) for mode in range(5)]
            turning = (read_wood("t = l | m(t) | n(t)"), call(0), modes)
            tree = ("x", 0, ())
            for _ in range(names - 1):
                tree = ("b", 0, (tree,))
            return turning, tree

        for names in [1, 2, 19, 20]:
            told = source(*wants(names))
            self.assertEqual((told[0], len(told[1])), ("none", 5 * names))
        for names in [21, 22, 40]:
            refuses(self, TooGreat, source, *wants(names))

    def test_forty_levels(self):
        for length in [39, 40]:
            self.comes_from(ring(length), read_tree("b"), length)
        for length in [41, 42, 99, 100]:
            refuses(self, TooGreat, source, ring(length), read_tree("b"))

    def test_forty_levels_by_a_row_with_branches(self):
        for many in [1, 2, 38, 39]:
            self.comes_from(odd_at_the_end(many), read_tree("b"), many + 1)
        for many in [40, 41, 99]:
            refuses(self, TooGreat, source, odd_at_the_end(many), read_tree("b"))

    def test_forty_levels_of_what_is_wide(self):
        # Down both branches of a name at once, each by a mode of its own.
        def both(many):
            ends = [put("a")] * (many - 1) + [put("b")]
            modes = [("t", [end, call((mode + 1) % many, mode % 2)]) for mode, end in enumerate(ends)]
            return (TWO, put("z", call(0), call(1)), modes)

        for many in [3, 20, 39, 40]:
            self.comes_from(both(many), read_tree("z(b b)"), many)
        for many in [41, 60]:
            refuses(self, TooGreat, source, both(many), read_tree("z(b b)"))
            self.comes_from(both(many), read_tree("z(a a)"), 1)


class TestAgainstAllTrees(SourceCase):
    def marked(self, tree, marks):
        told = tree
        for place, mark in zip(places(tree), marks):
            found = at(told, place)
            told = put_at(told, place, (found[0], mark, found[2]))
        return told

    def against(self, turning, tree, room):
        """What is told, held against the wants by the document's words and against all small trees; the levels."""
        told = asked_twice(self, source, turning, tree)
        first = wanted(turning, tree)
        calls = going_onto(turning[1], tree, 0)
        by_words = None if calls is None else wants_of([turning[0][0][0]], calls)
        self.assertEqual(first, None if by_words is None else by_words[0])
        if first is None:
            self.assertEqual(told, ("none", []))
            return 0
        wants, handed = arising(turning, first)
        needed = needed_levels(wants, handed)
        if 0 in needed:
            self.comes_from(turning, tree, needed[0])
        else:
            self.assertEqual(told, ("none", [want for number, want in enumerate(wants) if number not in needed]))
        for small in all_trees(turning[0], turning[0][0][0], room, 0):
            if 0 not in needed or levels(small) < needed[0]:
                self.assertNotEqual(tree_of(turning, small), tree)
                if size(small) < 3:
                    for marks in itertools.product(range(-6, 7), repeat=size(small)):
                        self.assertNotEqual(tree_of(turning, self.marked(small, marks)), tree)
        return needed.get(0)

    def turning(self, chance, number, wood):
        if number % 3 == 0:
            return grown_turning(chance, wood, chance.randrange(1, 4), 2)
        return turning_into(chance, wood, [ABC, SHARED][number % 2], chance.randrange(1, 5), chance.randrange(1, 4))

    def test_grown(self):
        chance = random.Random(82)
        found = []
        woods = [(ABC, 3), (SHARED, 2), (LINE, 6), (LIST, 4), (TWO, 3), (THREE, 2)]
        for number in range(1200):
            wood, room = woods[number % 6]
            turning = self.turning(chance, number, wood)
            tree = tree_of(turning, grown_tree(chance, wood, wood[0][0], chance.randrange(1, room + 2)))
            known = True
            if number % 2:
                place = chance.choice(places(tree))
                name, mark, branches = at(tree, place)
                others = [("a", 0, ()), (name, mark + 1, branches), ("b", mark, branches)]
                tree = put_at(tree, place, chance.choice(others))
                known = False
            if size(tree) <= 60:
                try:
                    found.append(self.against(turning, tree, room))
                    self.assertTrue(found[-1] or not known)
                except TooGreat:
                    found.append("too great")
        for many, least_often in [(None, 80), (0, 40), (1, 100), (2, 60), (3, 20), (4, 4)]:
            self.assertGreater(found.count(many), least_often, many)
        self.assertLess(found.count("too great"), 20)


class TestOwn(unittest.TestCase):
    def test_what_is_told_is_new(self):
        turning = read_turning(LINE, "z(*p0 *q0); p t l : a; p t n : b(*p0); q t l : c; q t n : *q0")
        tree = read_tree("z(b(x) y)")
        want = wanted(turning, tree)
        for function, before in [(wanted, (turning, tree)), (handed_on, (turning, want, "n")),
                                 (source, (turning, tree))]:
            handed = copy.deepcopy(before)
            told = function(*handed)
            kept = copy.deepcopy(told)
            spoil(told)
            self.assertEqual(handed, before)
            again = function(*handed)
            self.assertEqual(again, kept)
            spoil(handed)
            self.assertEqual(again, kept)
        # Lists that are told at once are not one and the same either.
        told = handed_on(read_turning(TWO, "a"), ("t", []), "n")
        told[0][1].append("x")
        self.assertEqual(told[1], ("t", []))

    def test_kinds(self):
        turning = read_turning(LINE, "z(*p0 *q0); p t l : a; p t n : b(*p0); q t l : c; q t n : *q0")
        for want in [wanted(turning, read_tree("z(b(x) y)")), source(turning, read_tree("z(b(x) y)"))[1][0],
                     handed_on(turning, ("t", []), "n")[0], handed_on(turning, ("t", [(1, read_tree("a"))]), "n")[0]]:
            self.assertEqual([type(want), type(want[0]), type(want[1])], [tuple, str, list])
            for pair in want[1]:
                self.assertEqual([type(pair), type(pair[0]), type(pair[1])], [tuple, int, tuple])
        self.assertEqual(type(handed_on(turning, ("t", []), "n")), list)
        self.assertEqual(type(handed_on(turning, ("t", []), "l")), list)
        self.assertEqual([type(each) for each in source(turning, read_tree("a"))], [str, list])
        self.assertEqual([type(each) for each in source(turning, read_tree("z(a c)"))], [str, tuple])


if __name__ == "__main__":
    unittest.main()
