import copy
import random
import unittest

from tests.helper import (ABC, ADDED, LINE, LIST, MOST, SHARED, THREE, TURN, WOOD, all_trees, asked_twice, call,
                          calls_in, grown_tree, line, line_term, made, put, refuses, ring, spoil, tells_new_turnings,
                          tells_turnings, turning_into, wide_term, with_calls)
from turnery.behind import behind
from turnery.counting import many, seen, tall
from turnery.errors import Strays, TooGreat
from turnery.least import least
from turnery.parting import held
from turnery.running import reached, turned
from turnery.straying import strays
from turnery.terms import term_levels, term_size
from turnery.trees import levels, places, size
from turnery.turnings import is_sound
from turnery.turntexts import read_turning, show_turning
from turnery.woods import read_wood

TWO = read_wood("t = l | n(t t)")
DOUBLE = read_turning(LINE, "*q0; q t l : l=; q t n : n=(*q0 *q0)")


def put_on(other, mode, term):
    """The other's mode put on the term, by the document's words, with pairs for modes."""
    if term[0] == "call":
        return call((term[1], mode), term[2])
    kind, rules = other[2][mode]
    rule = rules[[row[0] for row in dict(other[0])[kind]].index(term[1])]

    def come_to(part):
        if part[0] == "call":
            return put_on(other, part[1], term[4][part[2]])
        parts = [come_to(each) for each in part[4]]
        if not part[2]:
            return put(part[1], *parts, add=part[3])
        return put(part[1], *parts, kept=term[2], add=part[3] + term[3])

    return come_to(rule)


def behind_by_words(one, other):
    start = with_calls(other[1], lambda mode, branch: put_on(other, mode, one[1]))
    met = list(dict.fromkeys(mode for mode, branch in calls_in(start)))
    modes = []
    for mine, its in met:
        kind, rules = one[2][mine]
        rules = [put_on(other, its, rule) for rule in rules]
        for rule in rules:
            met.extend(mode for mode in dict.fromkeys(mode for mode, branch in calls_in(rule)) if mode not in met)
        modes.append((kind, rules))

    def numbered(term):
        return with_calls(term, lambda mode, branch: call(met.index(mode), branch))

    return (one[0], numbered(start), [(kind, [numbered(rule) for rule in rules]) for kind, rules in modes])


def same_of(wood, name="q"):
    """The turning that keeps all trees of the wood as they are, marks too."""
    rules = []
    for kind, rows in wood:
        for row, kinds in rows:
            parts = " ".join(f"*{name}{each}{number}" for number, each in enumerate(kinds))
            rules.append(f"{name}{kind} {kind} {row} : {row}=" + (f"({parts})" if kinds else ""))
    return read_turning(wood, f"*{name}{wood[0][0]}0; " + "; ".join(rules))


class BehindCase(unittest.TestCase):
    def told(self, one, other):
        found = asked_twice(self, behind, one, other)
        self.assertTrue(is_sound(*found))
        self.assertEqual(found[0], one[0])
        self.assertEqual(found, behind_by_words(one, other))
        self.assertEqual(reached(found), list(range(len(found[2]))))
        return found

    def makes(self, one, other, trees):
        """Holds the outcomes against what the other makes of what the one makes; tells what was told."""
        found = self.told(one, other)
        for tree in trees:
            between = made(one, one[1], 0, (tree,))
            outcome = made(other, other[1], 0, (between,))
            if size(outcome) > 2000:
                continue
            self.assertEqual((many(found, tree), tall(found, tree)), (size(outcome), levels(outcome)))
            if size(outcome) <= 400 and levels(outcome) <= 60:
                self.assertEqual(turned(found, tree), outcome)
            for place in places(outcome)[:9]:
                self.assertEqual(seen(found, tree, place), seen(other, between, place))
                self.assertEqual(seen(found, tree, place + (9,)), None)
        return found

    def shows(self, wood, between, *rows):
        """Rows of the texts of the one, the other, and what is told; the wood between is the other's."""
        first, second = read_wood(wood), read_wood(between)
        for one, other, text in rows:
            trees = all_trees(first, first[0][0], 3, 5)
            found = self.makes(read_turning(first, one), read_turning(second, other), trees)
            self.assertEqual(show_turning(found), text)


class TestSmall(BehindCase):
    def test_an_example(self):
        self.assertEqual(behind(ADDED, ADDED), read_turning(
            LIST, "*q0; q list nil : nil; q list cons : cons(*m0 *q1); m num n : n=2"))
        last = read_turning(LIST, "z(*q0); q list nil : a; q list cons : b(*m0 *q1 *q1); m num n : c=-1")
        self.assertEqual(show_turning(behind(ADDED, last)),
                         "z(*a0); a list cons : b(*b0 *a1 *a1); a list nil : a; b num n : c=")

    def test_no_modes(self):
        self.shows("t = l | n(t)", "t = a | b(t)",
                   ("a", "x", "x"), ("a", "x5(y z-3)", "x5(y z-3)"),
                   ("b3(a)", "*q0; q t a : x; q t b : y=2(*q0)", "y5(x)"),
                   ("b(b(a7))", "z(*q0 *q0); q t a : x=; q t b : *q0", "z(x7 x7)"),
                   ("*q0; q t l : a; q t n : b(*q0)", "x", "x"))

    def test_the_start(self):
        """The other's start, each call put on the one's, which may be a call or puts."""
        self.shows("t = l | n(t)", "t = a | b(t)",
                   ("*q0; q t l : a; q t n : b(*q0)", "z(*q0); q t a : x; q t b : y(*q0)",
                    "z(*a0); a t l : x; a t n : y(*a0)"),
                   ("b(*q0); q t l : a; q t n : b(*q0)", "z(*q0); q t a : x; q t b : y(*q0)",
                    "z(y(*a0)); a t l : x; a t n : y(*a0)"),
                   ("b(b(*q0)); q t l : a; q t n : a", "*q0; q t a : x; q t b : *r0; r t a : c; r t b : d(*q0)",
                    "d(*a0); a t l : x; a t n : x"),
                   ("b4(*q0); q t l : a; q t n : a", "z(*q0 w-1); q t a : x; q t b : y=1(v v=)", "z(y5(v v4) w-1)"),
                   ("*q0; q t l : a; q t n : b(*q0)", "z(*q0 *r0 *q0); q t a : x; q t b : *q0; r t a : v; r t b : w",
                    "z(*a0 *b0 *a0); a t l : x; a t n : *a0; b t l : v; b t n : w"))

    def test_rules(self):
        self.shows("t = l | n(t)", "t = a | b(t) | c(t t)",
                   # Puts on puts, with parts that are dropped, doubled and turned round.
                   ("*q0; q t l : a; q t n : c(*q0 b(a))", "*q0; q t a : x; q t b : y(*q0); q t c : z(*q1 *q0 *q1)",
                    "*a0; a t l : x; a t n : z(y(x) *a0 y(x))"),
                   ("*q0; q t l : a; q t n : c(*q0 b(a))", "*q0; q t a : x; q t b : y(*q0); q t c : *q1",
                    "*a0; a t l : x; a t n : y(x)"),
                   # Calls straight on calls.
                   ("*q0; q t l : a; q t n : *q0", "*q0; q t a : x; q t b : *q0; q t c : *q1",
                    "*a0; a t l : x; a t n : *a0"),
                   ("*q0; q t l : c(a b(a)); q t n : *r0; r t l : a; r t n : *q0",
                    "*q0; q t a : x; q t b : w(*q0); q t c : *q1",
                    "*a0; a t l : w(x); a t n : *b0; b t l : x; b t n : *a0"),
                   # A rule that goes down several puts at once.
                   ("*q0; q t l : b(b(b(a))); q t n : b(b(b(*q0)))",
                    "*q0; q t a : x; q t b : *r0; q t c : x; r t a : v; r t b : w(*q0); r t c : v",
                    "*a0; a t l : w(v); a t n : w(*b0); b t l : w(w(x)); b t n : w(w(*a0))"))

    def test_marks(self):
        """Kept by both, by one, by none; adds together where the other keeps."""
        for mine, its, told in [("=", "=", "="), ("=2", "=3", "=5"), ("=2", "=-2", "="), ("=2", "3", "3"),
                                ("=2", "", ""), ("2", "=3", "5"), ("2", "=", "2"), ("2", "=-2", ""),
                                ("2", "3", "3"), ("", "", ""),
                                ("", "=", ""), ("=", "", ""), ("=-7", "=", "=-7"), ("-7", "=1", "-6")]:
            self.shows("t = l | n(t)", "t = a | b(t)",
                       (f"*q0; q t l : a{mine}; q t n : b{mine}(*q0)", f"*q0; q t a : x{its}; q t b : y{its}(*q0)",
                        f"*a0; a t l : x{told}; a t n : y{told}(*a0)"))

    def test_marks_in_one_rule(self):
        # Each put of the other's rule looks at the put it reads, however deep it stands.
        self.shows("t = l | n(t)", "t = a | b(t)",
                   ("*q0; q t l : a=1; q t n : b=2(b3(*q0))", "*q0; q t a : x=; q t b : y=10(z=20(*q0) w5 v=-2)",
                    "*a0; a t l : x=1; a t n : y=12(z=22(y13(z23(*a0) w5 v1)) w5 v=)"))

    def test_marks_of_many_figures(self):
        one = (LINE, call(0), [("t", [put("l", kept=True, add=MOST), put("n", call(0, 0), add=-MOST)])])
        self.assertEqual(behind(one, one), (LINE, call(0), [("t", [put("l", kept=True, add=2 * MOST),
                                                                  put("n", call(0, 0), add=-MOST)])]))
        keeps = (LINE, call(0), [("t", [put("l", kept=True, add=MOST), put("n", call(0, 0), kept=True, add=-MOST)])])
        self.assertEqual(behind(one, keeps)[2][0][1][1], put("n", call(0, 0), add=-2 * MOST))
        self.assertIs(behind(one, keeps)[2][0][1][1][2], False)
        self.assertIs(behind(one, keeps)[2][0][1][0][2], True)

    def test_names_in_several_kinds(self):
        self.shows("t = l | n(t)", "t = a | b(u); u = a | b(t t)",
                   ("*q0; q t l : a; q t n : b(b(*q0 a))",
                    "*q0; q t a : x; q t b : y(*r0); r u a : v; r u b : w(*q0 *q1)",
                    "*a0; a t l : x; a t n : y(w(*a0 x))"),
                   # One mode of the one is put behind modes of two kinds.
                   ("b(b(b(*q0) b(*q0))); q t l : a; q t n : a",
                    "*q0; q t a : x; q t b : y(*r0); r u a : v; r u b : w(*q0 *q1)",
                    "y(w(y(*a0) y(*a0))); a t l : v; a t n : v"),
                   ("b(b(b(*q0) *q0)); q t l : a; q t n : a",
                    "*q0; q t a : x; q t b : y(*r0); r u a : v; r u b : w(*q0 *q1)",
                    "y(w(y(*a0) *b0)); a t l : v; a t n : v; b t l : x; b t n : x"))

    def test_woods_of_several_kinds(self):
        self.shows("list = nil | cons(num list); num = n", "t = a | b(u t); u = k",
                   ("*q0; q list nil : a; q list cons : b(*m0 *q1); m num n : k=1",
                    "*q0; q t a : x; q t b : y(*q1 *m0); m u k : z=1",
                    "*a0; a list cons : y(*a1 *b0); a list nil : x; b num n : z=2"))

    def test_numbered_as_met(self):
        self.shows("t = l | n(t)", "t = a | b(t)",
                   # By the start's calls, then mode by mode.
                   ("*p0; o t l : a; o t n : a; p t l : a; p t n : b(*q0); q t l : a; q t n : b(*p0)",
                    "z(*s0 *r0); r t a : x; r t b : y(*s0); s t a : v; s t b : w(*s0)",
                    "z(*a0 *b0); a t l : v; a t n : w(*c0); b t l : x; b t n : y(*c0); c t l : v; c t n : w(*a0)"),
                   # Those that are never met are left out: of four pairs here two.
                   ("*p0; p t l : a; p t n : b(*q0); q t l : a; q t n : b(*p0)",
                    "*r0; r t a : x; r t b : y(*s0); s t a : v; s t b : w(*r0)",
                    "*a0; a t l : x; a t n : y(*b0); b t l : v; b t n : w(*a0)"))
        # Row by row.
        self.shows("t = l | m(t) | n(t)", "t = a | b(t) | c(t)",
                   ("*p0; p t l : a; p t m : b(*p0); p t n : c(*p0)",
                    "*r0; r t a : x; r t b : y(*s0); r t c : z(*u0); s t a : x; s t b : x; s t c : x; "
                    "u t a : v; u t b : v; u t c : v",
                    "*a0; a t l : x; a t m : y(*b0); a t n : z(*c0); b t l : x; b t m : x; b t n : x; "
                    "c t l : v; c t m : v; c t n : v"))

    def test_turnings_that_keep_all_as_it_is(self):
        for wood in [LINE, LIST, WOOD, TWO, SHARED, THREE]:
            same = same_of(wood)
            self.assertEqual(self.told(same, same), numbered_as_met(same))
            chance = random.Random(73)
            for _ in range(10):
                turning = turning_into(chance, wood, wood, 4, 2)
                self.assertEqual(self.told(same, turning), numbered_as_met(turning))
                self.assertEqual(self.told(turning, same), numbered_as_met(turning))
        self.assertEqual(behind(same_of(WOOD), TURN), numbered_as_met(TURN))


def numbered_as_met(turning):
    met = list(dict.fromkeys(mode for mode, branch in calls_in(turning[1])))
    for mode in met:
        for rule in turning[2][mode][1]:
            met.extend(each for each in dict.fromkeys(mode for mode, branch in calls_in(rule)) if each not in met)

    def numbered(term):
        return with_calls(term, lambda mode, branch: call(met.index(mode), branch))

    modes = [(turning[2][mode][0], [numbered(rule) for rule in turning[2][mode][1]]) for mode in met]
    return (turning[0], numbered(turning[1]), modes)


class TestGrown(BehindCase):
    def test_grown(self):
        chance = random.Random(74)
        found = []
        woods = [(ABC, 3), (SHARED, 3), (THREE, 2), (LINE, 5), (LIST, 4), (TWO, 3)]
        for number in range(400):
            wood, room = woods[number % 6]
            between = woods[number // 6 % 6][0]
            last = woods[chance.randrange(6)][0]
            one = turning_into(chance, wood, between, chance.randrange(1, 7), 3)
            other = turning_into(chance, between, last, chance.randrange(1, 7), 3, 0.1)
            trees = all_trees(wood, wood[0][0], room, 3)[:60]
            trees += [grown_tree(chance, wood, wood[0][0], room + 1) for _ in range(4)]
            try:
                found.append(len(self.makes(one, other, trees)[2]))
            except TooGreat:
                found.append(None)
        for modes, least_often in [(1, 40), (2, 20), (3, 10), (4, 5)]:
            self.assertGreater(found.count(modes), least_often, modes)
        self.assertGreater(max(each for each in found if each is not None), 7)

    def test_three_behind_one_another(self):
        chance = random.Random(75)
        told = 0
        for number in range(200):
            woods = [[ABC, SHARED, THREE, LINE, LIST][chance.randrange(5)] for _ in range(4)]
            one, two, three = [turning_into(chance, woods[place], woods[place + 1], chance.randrange(1, 6), 2)
                               for place in range(3)]
            try:
                first, last = behind(one, two), behind(two, three)
                self.assertEqual(behind(first, three), behind(one, last))
                self.assertEqual(held(behind(first, three), behind(one, last))[0], "same")
                told += len(behind(one, last)[2]) > 1
            except TooGreat:
                pass
        self.assertGreater(told, 40)

    def test_behind_what_makes_the_same(self):
        """What is least makes the same, ahead or behind."""
        chance = random.Random(76)
        for number in range(60):
            one = turning_into(chance, [ABC, LIST, SHARED][number % 3], SHARED, 4, 2)
            other = turning_into(chance, SHARED, [ABC, LIST, LINE][number % 3], 4, 2)
            found = behind(one, other)
            for beside in [behind(least(one), other), behind(one, least(other))]:
                self.assertEqual(least(beside), least(found))


class TestStrays(unittest.TestCase):
    def strays(self, wood, between, one, other="x"):
        refuses(self, Strays, behind, read_turning(read_wood(wood), one), read_turning(read_wood(between), other))

    def test_each_fault(self):
        for one in ["c", "a(a)", "b", "b(a)", "b(a a a)", "b(a c)", "b(b(a a) b(a b))", "*q0; q t l : c; q t n : a",
                    "*q0; q t l : a; q t n : c", "*q0; q t l : a; q t n : b(*q0 x)", "*q0; q t l : a; q t n : b(*q0)",
                    "*q0; q t l : a; q t n : *r0; r t l : a; r t n : *s0; s t l : a; s t n : a(a)"]:
            # Whatever the other does, also where it looks at nothing.
            for other in ["x", "*q0; q t a : x; q t b : y(*q0 *q1)", "*q0; q t a : x; q t b : *q0"]:
                self.strays("t = l | n(t)", "t = a | b(t t)", one, other)

    def test_the_first_kind_is_wanted(self):
        self.strays("t = l | n(t)", "t = a; u = b", "b")
        self.strays("t = l | n(t)", "t = a | c(u); u = b | d(t)", "c(a)")

    def test_modes_that_are_not_reached(self):
        one = read_turning(LINE, "a; q t l : x; q t n : *q0")
        self.assertEqual(behind(one, read_turning(read_wood("t = a"), "*q0; q t a : y")), (LINE, put("y"), []))

    def test_by_trees_of_many_levels(self):
        wood = read_wood("t = a")
        for length in [1, 39, 40, 41, 42, 80, 200]:
            refuses(self, Strays, behind, ring(length), (wood, put("x"), []))
            refuses(self, Strays, behind, ring(length), (wood, call(0), [("t", [put("x")])]))
        self.assertRaises(TooGreat, strays, ring(41), wood)

    def test_ahead_of_too_great(self):
        between = read_wood("t = a | n(t)")
        for start in [wide_term(201), wide_term(400), line_term(31, put("a")), line_term(60, put("a"))]:
            refuses(self, Strays, behind, ring(41), (between, start, []))
            refuses(self, TooGreat, behind, ring(41, last=put("a")), (between, start, []))
        # Too many modes, and rules that are too great, ahead of the one that strays.
        keeps = [("t", [put("a"), put("n", call(mode + 1, 0))]) for mode in range(60)]
        refuses(self, Strays, behind, (LINE, call(0), keeps + [("t", [put("x"), put("a")])]), (between, call(0), [
            ("t", [put("a"), put("n", call(0, 0))])]))
        refuses(self, TooGreat, behind, (LINE, call(0), keeps + [("t", [put("a"), put("a")])]), (between, call(0), [
            ("t", [put("a"), put("n", call(0, 0))])]))


def round_about(many):
    """A turning of LINE's whose modes go round, each with a mark of its own."""
    return (LINE, call(0), [("t", [put("l", add=mode), put("n", call((mode + 1) % many, 0), add=mode)])
                            for mode in range(many)])


class TestTooGreat(unittest.TestCase):
    def test_forty_modes(self):
        for one, other, told in [(1, 1, 1), (1, 40, 40), (40, 1, 40), (40, 40, 40), (5, 8, 40), (8, 5, 40),
                                 (20, 40, 40), (3, 13, 39), (10, 4, 20), (200, 1, None), (41, 1, None), (1, 41, None),
                                 (41, 41, None),
                                 (6, 7, None), (7, 6, None), (3, 14, None), (199, 200, None), (8, 10, 40)]:
            if told is None:
                refuses(self, TooGreat, behind, round_about(one), round_about(other))
            else:
                found = behind(round_about(one), round_about(other))
                self.assertEqual(len(found[2]), told)
                between = turned(round_about(one), line(40))
                self.assertEqual(turned(found, line(40)), turned(round_about(other), between))

    def test_modes_in_a_row(self):
        def row(many):
            modes = [("t", [put("l"), put("n", call(mode + 1, 0))]) for mode in range(many - 1)]
            return (LINE, call(0), modes + [("t", [put("l"), put("l")])])

        same = read_turning(LINE, "*q0; q t l : l; q t n : n(*q0)")
        for first, second in [(row(40), same), (same, row(40)), (row(40), row(40)), (row(40), row(200))]:
            self.assertEqual(len(behind(first, second)[2]), 40)
        for first, second in [(row(41), same), (same, row(41)), (row(41), row(41)), (row(200), row(200))]:
            refuses(self, TooGreat, behind, first, second)
        # What is never met doesn't count.
        self.assertEqual(len(behind((LINE, call(160), row(200)[2]), same)[2]), 40)
        refuses(self, TooGreat, behind, (LINE, call(159), row(200)[2]), same)
        self.assertEqual(len(behind(row(200), (LINE, put("a"), same[2]))[2]), 0)

    def test_forty_modes_that_the_start_calls(self):
        wood = read_wood("t = a")
        for many_modes in [40, 41]:
            other = (wood, put("z", *[call(mode) for mode in range(many_modes)]), [("t", [put("x")])] * many_modes)
            one = (LINE, call(0), [("t", [put("a"), put("a")])])
            if many_modes == 40:
                self.assertEqual(len(behind(one, other)[2]), 40)
            else:
                refuses(self, TooGreat, behind, one, other)

    def test_a_start_of_a_size_of_two_hundred(self):
        wood = read_wood("t = a | b(t)")
        one = (LINE, put("b", call(0)), [("t", [put("a"), put("b", call(0, 0))])])
        # On a put the mode q comes to two puts and a call, and r to the call alone.
        modes = [("t", [put("x"), put("y", put("x"), call(0, 0))]), ("t", [put("x"), call(1, 0)])]
        for start, told in [(wide_term(200), 200), (wide_term(201), None), (wide_term(200, call(1)), 200),
                            (wide_term(201, call(1)), None), (wide_term(198, call(0)), 200),
                            (wide_term(199, call(0)), None), (wide_term(199, call(1), call(1)), 199),
                            (put("z", *[call(0)] * 66), 199),
                            (put("z", put("x"), *[call(0)] * 66), 200), (put("z", *[call(0)] * 67), None),
                            (put("z", *[call(1)] * 199), 200), (put("z", *[call(1)] * 200), None),
                            (wide_term(400), None), (put("z", *[call(0)] * 399), None)]:
            if told is None:
                refuses(self, TooGreat, behind, one, (wood, start, modes))
            else:
                self.assertEqual(term_size(behind(one, (wood, start, modes))[1]), told)

    def test_a_rule_of_a_size_of_two_hundred(self):
        wood = read_wood("t = a | b(t) | c(t t t t)")
        rest = [put("b", call(0, 0)), put("c", *[call(0, number) for number in range(4)])]
        same = (wood, call(0), [("t", [put("a")] + rest)])
        greater = (wood, call(0), [("t", [put("a", put("e"))] + rest)])

        def even(many_names):
            """A term for the wood of so great a size, with few levels."""
            if many_names < 5:
                return put("a") if many_names == 1 else put("b", even(many_names - 1))
            return put("c", *[even((many_names - 1 + number) // 4) for number in range(4)])

        def leaves(term):
            return sum(leaves(part) for part in term[4]) if term[4] else 1

        for many_names in [1, 2, 90, 110, 115, 120, 121, 122, 125, 199, 200, 201, 202, 400]:
            term = even(many_names)
            self.assertEqual(term_size(term), many_names)
            for other, told in [(same, many_names), (greater, many_names + leaves(term))]:
                for number in range(2):
                    rules = [put("a"), put("a")]
                    rules[number] = term
                    if told <= 200:
                        found = behind((LINE, call(0), [("t", rules)]), other)
                        self.assertEqual(term_size(found[2][0][1][number]), told)
                    else:
                        refuses(self, TooGreat, behind, (LINE, call(0), [("t", rules)]), other)
                if told <= 200:
                    self.assertEqual(term_size(behind((LINE, term, []), other)[1]), told)
                else:
                    refuses(self, TooGreat, behind, (LINE, term, []), other)

    def test_a_rule_of_the_last_mode(self):
        for size_told in [200, 201]:
            modes = [("t", [put("l"), put("n", call(mode + 1, 0))]) for mode in range(39)]
            other = (LINE, call(0), modes + [("t", [put("l"), wide_term(size_told)])])
            if size_told == 200:
                self.assertEqual(len(behind(same_of(LINE), other)[2]), 40)
            else:
                refuses(self, TooGreat, behind, same_of(LINE), other)

    def test_wide_rules_of_a_size_of_two_hundred(self):
        wood = read_wood("t = a | b(t)")
        one = (LINE, call(0), [("t", [put("a"), put("b", put("b", call(0, 0)))])])
        for rule, told in [(wide_term(199, call(1, 0)), 199), (wide_term(200, call(1, 0)), 200),
                           (wide_term(201, call(1, 0)), None), (wide_term(200), 200), (wide_term(201), None),
                           (put("z", *[call(2, 0)] * 99, call(1, 0)), 200), (put("z", *[call(2, 0)] * 100), None)]:
            modes = [("t", [put("x"), rule]), ("t", [put("x"), call(1, 0)]), ("t", [put("x"), put("y", call(1, 0))])]
            other = (wood, call(0), modes)
            if told is None:
                refuses(self, TooGreat, behind, one, other)
                # That of a mode that isn't met, or for a name that isn't made, is not looked at.
                self.assertEqual(behind(one, (wood, put("z"), modes)), (LINE, put("z"), []))
                self.assertEqual(len(behind(one, (wood, call(1), modes))[2]), 1)
                only = (LINE, call(0), [("t", [put("a"), put("a")])])
                self.assertEqual(behind(only, other), (LINE, call(0), [("t", [put("x"), put("x")])]))
            else:
                self.assertEqual(term_size(behind(one, other)[2][0][1][1]), told)

    def test_thirty_levels(self):
        wood = read_wood("t = a | b(t)")
        same = ("t", [put("a"), put("b", call(0, 0))])
        skips = ("t", [put("a"), call(0, 0)])

        def deep(many_levels, end):
            for _ in range(many_levels - 1):
                end = put("b", end)
            return end

        for many_levels in [29, 30, 31, 60]:
            one = (LINE, call(0), [("t", [deep(many_levels, put("a")), deep(many_levels, call(0, 0))])])
            early = (LINE, deep(many_levels, call(0)), [("t", [put("a"), put("a")])])
            for turning in [one, early, (LINE, deep(many_levels, put("a")), [])]:
                if many_levels <= 30:
                    found = behind(turning, (wood, call(0), [same]))
                    self.assertEqual(found, turning)
                else:
                    refuses(self, TooGreat, behind, turning, (wood, call(0), [same]))
                # Nothing is put out for what is skipped.
                found = behind(turning, (wood, call(0), [skips]))
                self.assertLessEqual(term_size(found[1]), 1)
        for start, fits in [(line_term(30, put("a")), True), (line_term(31, put("a")), False),
                            (line_term(30, call(0)), True), (line_term(29, call(0)), True),
                            (line_term(31, call(0)), False), (line_term(60, call(0)), False)]:
            one = (LINE, call(0), [("t", [put("a"), put("a")])])
            if fits:
                self.assertEqual(behind(one, (wood, start, [same]))[1], start)
            else:
                refuses(self, TooGreat, behind, one, (wood, start, [same]))
        # Levels of both come together: what the one puts out, and what the other puts out for its last name.
        for above, below in [(10, 20), (1, 29), (29, 1), (10, 21), (2, 29), (30, 1)]:
            one = (LINE, call(0), [("t", [deep(above + 1, put("a")), put("a")])])
            other = (wood, call(0), [("t", [line_term(below, put("x")), put("b", call(0, 0))])])
            if above + below <= 30:
                self.assertEqual(term_levels(behind(one, other)[2][0][1][0]), above + below)
            else:
                refuses(self, TooGreat, behind, one, other)

    def test_sizes_that_double(self):
        """Could never be made whole."""
        def names(many_names, end):
            for _ in range(many_names):
                end = put("n", end)
            return end

        for many_names in [7, 8, 20, 29, 30, 59]:
            for one in [(LINE, names(many_names, put("l")), []),
                        (LINE, names(many_names, call(0)), [("t", [put("l"), put("l")])]),
                        (LINE, call(0), [("t", [put("l"), names(many_names, call(0, 0))])]),
                        (LINE, call(0), [("t", [names(many_names, put("l")), put("l")])])]:
                refuses(self, TooGreat, behind, one, DOUBLE)
        for many_names in [1, 2, 6]:
            one = (LINE, names(many_names, put("l")), [])
            self.assertEqual(term_size(behind(one, DOUBLE)[1]), 2 ** (many_names + 1) - 1)
        wide = (LINE, call(0), [("t", [put("l"), put("n", *[call(0, 0)] * 399)])])
        refuses(self, TooGreat, behind, (LINE, names(59, put("l")), []), wide)
        # Each branch is read twice.
        one = (LINE, put("n", put("n", put("l"), put("l")), put("l")), [])
        other = (TWO, call(0), [("t", [put("x"), put("y", call(0, 0), call(0, 1), call(0, 0), call(0, 1))])])
        self.assertEqual(term_size(behind(one, other)[1]), 1 + 2 * 5 + 2)

    def test_deep_rules_on_deep_terms(self):
        """Sixty levels on sixty levels: refused, or skipped."""
        def names(many_names, end):
            for _ in range(many_names):
                end = put("n", end)
            return end

        one = (LINE, names(59, call(0)), [("t", [put("l"), names(59, call(0, 0))])])
        other = (LINE, call(0), [("t", [put("l"), line_term(60, call(0, 0))])])
        refuses(self, TooGreat, behind, one, other)
        skips = (LINE, put("z", *[call(0)] * 199), [("t", [put("l"), call(0, 0)])])
        self.assertEqual(behind(one, skips)[2], [("t", [put("l"), call(0, 0)])])


class TestOwn(unittest.TestCase):
    def test_what_is_told_is_new(self):
        # The wood has all names that TURN puts out.
        wood = read_wood("x = top(x x) | in(x x) | d | e(x x x) | call(x) | put | f(x x) | a | b(x x) | c(x) | "
                         "i(x x) | j(x) | k(x) | h")
        tells_new_turnings(self, lambda turning: behind(turning, same_of(LIST if turning == ADDED else wood)))
        tells_new_turnings(self, lambda turning: behind(same_of(turning[0]), turning))
        for one, other in [(ADDED, ADDED), (same_of(WOOD), TURN), (DOUBLE, same_of(TWO))]:
            first, second = copy.deepcopy((one, other))
            told = behind(first, second)
            kept = copy.deepcopy(told)
            spoil(told)
            self.assertEqual((first, second), (one, other))
            told = behind(first, second)
            self.assertEqual(told, kept)
            spoil(first)
            spoil(second)
            self.assertEqual(told, kept)

    def test_one_and_the_same_handed_in_twice(self):
        same = same_of(LINE)
        told = behind(same, same)
        self.assertEqual(told, same)
        told[0][0][1].clear()
        told[2][0][1].clear()
        self.assertEqual(same, same_of(LINE))

    def test_kinds(self):
        tells_turnings(self, lambda turning: behind(same_of(WOOD), turning))
        self.assertEqual(behind((LINE, put("l"), []), (LINE, put("a"), [])), (LINE, put("a"), []))


if __name__ == "__main__":
    unittest.main()
