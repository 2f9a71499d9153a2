import copy
import random
import unittest

from tests.helper import (ADDED, LINE, LIST, MOST, TURN, WOOD, alike_turning, all_trees, call, calls_in, doubled,
                          grown_tree, grown_turning, keeps, line, line_term, made, makes_the_same, one_odd, own_marks,
                          put, put_later, rewritten, ring, shows_turnings, shuffled, some_trees, tells_new_turnings,
                          tells_turnings, wide_term, with_calls)
from turnery.commons import commons
from turnery.early import early
from turnery.errors import TooGreat
from turnery.least import least, stand
from turnery.running import reached
from turnery.terms import term_size
from turnery.turnings import is_sound
from turnery.turntexts import read_turning
from turnery.woods import read_wood

OPEN = ("open",)
SMALL = read_wood("t = l | k | n(t) | m(u t); u = e | f(t)")
# Two kinds with the same names, of which there are few trees of many levels.
TURNS = read_wood("t = l | n(u); u = l | n(t)")
# A mode whose common stump is b with one open part; as a mode of LINE's.
HALF = ("t", [put("b", put("c", kept=True)), put("b", put("c"))])


def ring_of(many):
    """A ring of so many modes that make the same."""
    return (LINE, call(0), [("t", [put("a"), put("b", call((mode + 1) % many, 0))]) for mode in range(many)])


def row_of_modes(many, last):
    """A row of so many modes that make unlike outcomes, each of which calls the next one, the last with rules told."""
    modes = [("t", [put("a", kept=True, add=mode), call(mode + 1, 0)]) for mode in range(many - 1)]
    return (LINE, call(0), modes + [("t", last)])


def least_by_words(turning, deepest):
    """The least turning, alike modes being those that make the same of all trees of at most so many levels."""
    wood, start, modes = early(turning)
    outcomes = []
    for mode, (kind, rules) in enumerate(modes):
        trees = [own_marks(tree) for tree in all_trees(wood, kind, deepest, 0)]
        outcomes.append((kind, [made((wood, start, modes), call(mode), 0, (tree,)) for tree in trees]))
    first = [outcomes.index(each) for each in outcomes]
    merged = lambda term: with_calls(term, lambda mode, branch: call(first[mode], branch))
    start = merged(start)
    met = list(dict.fromkeys(mode for mode, branch in calls_in(start)))
    for mode in met:
        for rule in modes[mode][1]:
            met.extend(each for each in dict.fromkeys(first[mode] for mode, branch in calls_in(rule))
                       if each not in met)
    numbered = lambda term: with_calls(merged(term), lambda mode, branch: call(met.index(mode), branch))
    return (wood, numbered(start), [(modes[mode][0], [numbered(rule) for rule in modes[mode][1]]) for mode in met])


class TestSmall(unittest.TestCase):
    def shows(self, wood, *pairs):
        shows_turnings(self, least, wood, pairs)

    def test_the_examples(self):
        self.assertEqual(least(ADDED), ADDED)
        self.assertEqual(least(TURN), early(TURN))
        self.assertEqual(least(early(TURN)), early(TURN))

    def test_no_modes(self):
        self.shows(LINE, ("a", "a"), ("a5(b-3 c)", "a5(b-3 c)"), ("*q0; q t l : a; q t n : *q0", "a"))
        for start in [put("a"), put("a", put("b", add=-MOST), add=MOST)]:
            self.assertEqual(least((LIST, start, [])), (LIST, start, []))
            # Modes that aren't met are left out.
            self.assertEqual(least((LINE, start, [("t", [put("a"), call(0, 0)])])), (LINE, start, []))

    def test_alike_modes_are_one(self):
        self.shows(LINE,
                   ("x(*q0 *r0); q t l : a; q t n : b; r t l : a; r t n : b", "x(*a0 *a0); a t l : a; a t n : b"),
                   ("x(*q0 *r0); q t l : a=; q t n : b(*q0); r t l : a=; r t n : b(*q0)",
                    "x(*a0 *a0); a t l : a=; a t n : b(*a0)"),
                   # One of several opens of a mode is like one of another mode.
                   ("*q0; q t l : a(b c); q t n : a(d *r0); r t l : c; r t n : e(*s0); s t l : b; s t n : d",
                    "a(*a0 *b0); a t l : b; a t n : d; b t l : c; b t n : *c0; c t l : c; c t n : e(*a0)"),
                   ("*q0; q t l : a(b b); q t n : a(c c)", "a(*a0 *a0); a t l : b; a t n : c"))

    def test_modes_that_are_not_alike_stay(self):
        for one, other in [("a", "b"), ("a", "a1"), ("a", "a="), ("a=", "a=1"), ("a", "a(a)"), ("a(b)", "a(b b)"),
                           ("a(b(c))", "a(b(d))")]:
            text = f"x(*q0 *r0); q t l : z; q t n : {one}; r t l : z; r t n : {other}"
            told = f"x(*a0 *b0); a t l : z; a t n : {one}; b t l : z; b t n : {other}"
            self.shows(LINE, (text, told))

    def test_calls_on_unlike_branches_are_not_alike(self):
        two = read_wood("t = l | n(t t)")
        self.shows(two,
                   ("x(*q0 *r0); q t l : a; q t n : b(*q0); r t l : a; r t n : b(*r1)",
                    "x(*a0 *b0); a t l : a; a t n : b(*a0); b t l : a; b t n : b(*b1)"),
                   ("x(*q0 *r0); q t l : a; q t n : b(*r1 *q0); r t l : a; r t n : b(*q1 *r0)",
                    "x(*a0 *a0); a t l : a; a t n : b(*a1 *a0)"))

    def test_rings(self):
        self.shows(LINE,
                   ("*q0; q t l : a; q t n : b(*r0); r t l : a; r t n : b(*q0)", "*a0; a t l : a; a t n : b(*a0)"),
                   ("*q0; q t l : a; q t n : *r0; r t l : b=; r t n : *s0; s t l : a; s t n : *u0; "
                    "u t l : b=; u t n : *q0", "*a0; a t l : a; a t n : *b0; b t l : b=; b t n : *a0"))
        for length in [1, 2, 3, 7, 200]:
            self.assertEqual(least(ring_of(length)), ring_of(1))
        # Rings of unlike lengths that are gone round in one step.
        both = (LINE, put("x", call(0), call(2)), ring_of(2)[2] + [
            ("t", [put("a"), put("b", call(2 + (mode + 1) % 3, 0))]) for mode in range(3)])
        self.assertEqual(least(both), (LINE, put("x", call(0), call(0)), ring_of(1)[2]))

    def test_rings_with_one_that_is_other(self):
        self.assertEqual(least(ring(200)), ring(200))
        for length in [2, 3, 40, 100]:
            self.assertEqual(least(ring(length)), ring(length))
            # One more of each mode, of which the first is called by the start alone.
            self.assertEqual(least((LINE, call(length), ring(length)[2] * 2)), ring(length))
        # Gone round twice, the ring is the same.
        twice = ring(12)[2][:6] + ring(6, node=lambda mode, branch: call(6 + mode, branch))[2]
        twice[5] = ("t", [put("b"), call(6, 0)])
        self.assertEqual(least((LINE, call(0), twice)), ring(6))
        self.assertEqual(least((LINE, call(6), twice)), ring(6))

    def test_unlike_only_far_down(self):
        """Two rows of modes that are the same but for the last of one."""
        for length in [1, 2, 30, 100]:
            modes = []
            for first, end in [(0, put("c")), (length, put("d"))]:
                modes += [("t", [put("a"), put("b", call(first + number + 1, 0))]) for number in range(length - 1)]
                modes += [("t", [end, put("b", call(first, 0))])]
            told = least((LINE, put("x", call(0), call(length)), modes))
            self.assertEqual(len(told[2]), 2 * length)
            same = modes[:-1] + [("t", [put("c"), put("b", call(length, 0))])]
            told = least((LINE, put("x", call(0), call(length)), same))
            self.assertEqual(told, (LINE, put("x", call(0), call(0)), modes[:length]))

    def test_unlike_kinds(self):
        self.shows(TURNS,
                   ("*q0; q t l : a; q t n : b(*r0); r u l : a; r u n : b(*q0)",
                    "*a0; a t l : a; a t n : b(*b0); b u l : a; b u n : b(*a0)"),
                   ("*q0; q t l : a; q t n : *r0; r u l : b; r u n : *s0; s t l : a; s t n : *v0; v u l : b; "
                    "v u n : *q0", "*a0; a t l : a; a t n : *b0; b u l : b; b u n : *a0"))
        self.shows(read_wood("t = l | n(u); u = l | m"),
                   ("*q0; q t l : a; q t n : *r0; r u l : a; r u m : b",
                    "*a0; a t l : a; a t n : *b0; b u l : a; b u m : b"))

    def test_numbered_as_met(self):
        self.shows(LINE,
                   ("x(*r0 *q0 *s0); q t l : a; q t n : b; r t l : c; r t n : *s0; s t l : d; s t n : e",
                    "x(*a0 *b0 *c0); a t l : c; a t n : *c0; b t l : a; b t n : b; c t l : d; c t n : e"),
                   # Here s and v are alike, and met first where v is called.
                   ("x(*r0); q t l : z; q t n : *s0; r t l : a; r t n : y(*v0 *q0); s t l : d; s t n : e; "
                    "v t l : d; v t n : e",
                    "x(*a0); a t l : a; a t n : y(*b0 *c0); b t l : d; b t n : e; c t l : z; c t n : *b0"))

    def test_what_is_never_met_is_left_out(self):
        self.shows(LINE,
                   ("*r0; q t l : a; q t n : b(*q0); r t l : c; r t n : d(*r0); s t l : a; s t n : *r0",
                    "*a0; a t l : c; a t n : d(*a0)"),
                   # Met only by a mode that is alike, or of which nothing is left.
                   ("*q0; q t l : a; q t n : *r0; r t l : a; r t n : *s0; s t l : a; s t n : *r0", "a"))


class TestAgainstTrees(unittest.TestCase):
    def held(self, turning, trees):
        before = copy.deepcopy(turning)
        told = least(turning)
        self.assertEqual(turning, before)
        self.assertTrue(is_sound(*told))
        self.assertEqual(commons(told), [OPEN] * len(told[2]))
        self.assertEqual(reached(told), list(range(len(told[2]))))
        self.assertEqual(early(told), told)
        self.assertEqual(least(told), told)
        self.assertEqual(least(early(turning)), told)
        makes_the_same(self, turning, told, trees)
        return told

    def test_the_examples(self):
        chance = random.Random(40)
        self.held(ADDED, some_trees(chance, LIST, 6))
        self.held(TURN, some_trees(chance, WOOD, 4))
        for length in [2, 5, 40]:
            self.held(ring(length), [line(deep) for deep in range(1, 41)])

    def test_rewritten(self):
        chance = random.Random(41)
        fewer = 0
        for number in range(200):
            wood, deepest = [(LIST, 5), (WOOD, 4), (LINE, 6), (SMALL, 4)][number % 4]
            turning = alike_turning(chance, wood, chance.randrange(1, 8), 0.1)
            if number % 3 == 0:
                turning = grown_turning(chance, wood, chance.randrange(1, 5), 3)
            told = self.held(turning, some_trees(chance, wood, deepest))
            for change in [doubled, shuffled, put_later, rewritten]:
                other = change(chance, turning)
                self.assertTrue(is_sound(*other))
                self.assertEqual(least(other), told)
                fewer += len(told[2]) < len(early(other)[2])
        self.assertGreater(fewer, 100)

    def test_by_words(self):
        """In woods of few trees, held against all that are needed."""
        chance = random.Random(42)
        found = []
        for number in range(300):
            wood = [LINE, TURNS][number % 2]
            turning = alike_turning(chance, wood, chance.randrange(2, 9), 0.15)
            if number % 3 == 0:
                turning = one_odd(chance, doubled(chance, turning))
            told = least(turning)
            self.assertEqual(told, least_by_words(turning, 24))
            found.append(len(told[2]))
        for modes in [0, 1, 2, 3, 4, 5]:
            self.assertGreater(found.count(modes), 2, modes)

    def test_equal_just_where_the_same_is_made(self):
        chance = random.Random(43)
        told = []
        for number in range(300):
            turning = alike_turning(chance, LINE, chance.randrange(2, 7), 0.1)
            other = rewritten(chance, one_odd(chance, turning))
            trees = [own_marks(line(deep)) for deep in range(1, 31)]
            same = all(made(turning, turning[1], 0, (tree,)) == made(other, other[1], 0, (tree,)) for tree in trees)
            self.assertEqual(least(turning) == least(other), same)
            told.append(same)
        self.assertGreater(told.count(True), 40)
        self.assertGreater(told.count(False), 40)


class TestTooGreat(unittest.TestCase):
    def tells(self, turning, modes):
        told = least(turning)
        self.assertEqual(len(told[2]), modes)
        self.assertTrue(is_sound(*told))
        self.assertEqual(len(stand(turning)), len(turning[2]))
        return told

    def refuses(self, turning):
        for function in [least, stand]:
            with self.assertRaises(TooGreat) as caught:
                function(turning)
            self.assertIs(type(caught.exception), TooGreat)

    def test_modes_of_one_stump(self):
        for opened in [199, 200, 201, 399]:
            ends = [put("b", add=number) for number in range(opened)]
            turning = (LINE, call(0), [("t", [put("a", *[put("b", kept=True)] * opened), put("a", *ends)])])
            if opened > 200:
                self.refuses(turning)
            else:
                told = self.tells(turning, opened)
                self.assertEqual(told[1], put("a", *[call(mode) for mode in range(opened)]))

    def test_modes_that_are_met_count_though_they_are_alike(self):
        for opened in [200, 201]:
            rules = [put("a", *[put("b", kept=True)] * opened), put("a", *[put("b")] * opened)]
            turning = (LINE, call(0), [("t", rules)])
            if opened > 200:
                self.refuses(turning)
            else:
                self.assertEqual(self.tells(turning, 1)[1], put("a", *[call(0)] * opened))

    def test_modes_in_a_row(self):
        self.tells(row_of_modes(200, [put("a"), put("b")]), 200)
        self.tells(row_of_modes(200, [put("a"), put("a")]), 199)
        self.tells(row_of_modes(200, [put("a", put("b")), put("a", put("c"))]), 200)
        both = [put("a", put("b"), put("b")), put("a", put("c"), put("d"))]
        turning = row_of_modes(200, both)
        self.refuses(turning)
        # What is never met doesn't count.
        self.tells((LINE, call(1), turning[2]), 200)

    def test_a_start_of_a_size_of_four_hundred(self):
        for start, fits in [(wide_term(400), True), (wide_term(400, call(0)), True), (wide_term(399, call(1)), True),
                            (put("a", *[call(1)] * 199, call(0)), True), (wide_term(400, call(1)), False),
                            (put("a", *[call(1)] * 200), False), (put("a", *[call(1)] * 399), False)]:
            turning = (LINE, start, [("t", [put("x"), put("y")]), HALF])
            if fits:
                self.assertEqual(term_size(least(turning)[1]), 400)
            else:
                self.refuses(turning)

    def test_a_rule_of_a_size_of_four_hundred(self):
        for rule, fits in [(wide_term(400), True), (wide_term(399, call(1, 0)), True),
                           (wide_term(400, call(1, 0)), False), (put("a", *[call(1, 0)] * 199, call(0, 0)), True),
                           (put("a", *[call(1, 0)] * 200), False)]:
            modes = [("t", [put("x"), rule]), HALF]
            if fits:
                self.tells((LINE, call(0), modes), 1 if rule == wide_term(400) else 2)
            else:
                self.refuses((LINE, call(0), modes))
                # That of a mode that isn't met is not looked at.
                self.assertEqual(least((LINE, put("z"), modes)), (LINE, put("z"), []))
                self.assertEqual(stand((LINE, put("z"), modes)), [None, None])

    def test_sixty_levels(self):
        for deep in [1, 30, 59, 60]:
            # The start, and with it the rule, has as many levels, and the stump two.
            for start, modes in [(line_term(deep, call(0)), [HALF]),
                                 (call(0), [("t", [put("x"), line_term(deep, call(1, 0))]), HALF])]:
                if deep == 60:
                    self.refuses((LINE, start, modes))
                else:
                    told = least((LINE, start, modes))
                    found = told[1] if len(modes) == 1 else told[2][0][1][1]
                    self.assertEqual(found, line_term(deep, put("b", call(len(modes) - 1))))
        deep = [("t", [line_term(60, put("x")), line_term(60, put("y"))])]
        self.assertEqual(least((LINE, call(0), deep)),
                         (LINE, line_term(60, call(0)), [("t", [put("x"), put("y")])]))
        self.assertEqual(stand((LINE, call(0), deep)), [line_term(60, call(0))])
        self.refuses((LINE, put("a", call(0)), deep))


class TestStand(unittest.TestCase):
    def stands(self, wood, text, *told):
        turning = read_turning(wood, text)
        self.assertEqual(stand(turning), list(told))

    def test_the_examples(self):
        self.assertEqual(stand(ADDED), [call(0), call(1)])
        self.assertEqual(stand(TURN), [call(0), call(2), put("call", call(3)), call(1)])

    def test_no_modes(self):
        self.assertEqual(stand((LINE, put("a"), [])), [])

    def test_not_reached(self):
        self.stands(LINE, "a; q t l : a; q t n : b", None)
        self.stands(LINE, "*r0; q t l : a; q t n : *r0; r t l : a; r t n : b; s t l : a; s t n : b",
                    None, call(0), None)
        # A mode that calls itself alone isn't reached, one that only a reached one calls is.
        self.stands(LINE, "*r0; q t l : a; q t n : *q0; r t l : a; r t n : c(*s0); s t l : x(a); s t n : x(b)",
                    None, call(0), put("x", call(1)))

    def test_stumps(self):
        self.stands(LINE, "*q0; q t l : a5(b c); q t n : a5(d e)", put("a", call(0), call(1), add=5))
        self.stands(LINE, "*q0; q t l : a(b b-3(c= d)); q t n : a(d b-3(c= d))",
                    put("a", call(0), put("b", call(1), put("d"), add=-3)))
        self.stands(LINE, "*q0; q t l : a=; q t n : a=", call(0))

    def test_modes_without_an_open_place(self):
        self.stands(LINE, "*q0; q t l : a5(b-1 c); q t n : *q0", put("a", put("b", add=-1), put("c"), add=5))
        self.stands(LINE, "x(*q0 *r0); q t l : a; q t n : a; r t l : c; r t n : b", put("a"), call(0))

    def test_alike_modes_have_one_call(self):
        self.stands(LINE, "*q0; q t l : a; q t n : b(*r0); r t l : a; r t n : b(*q0)", call(0), call(0))
        self.stands(LINE, "*q0; q t l : a(b b); q t n : a(c c)", put("a", call(0), call(0)))
        self.stands(LINE, "x(*q0 *r0); q t l : a(b); q t n : a(c); r t l : d(b b); r t n : d(*q0 c)",
                    put("a", call(0)), put("d", call(1), call(0)))
        for length in [2, 7, 200]:
            self.assertEqual(stand(ring_of(length)), [call(0)] * length)
            self.assertEqual(stand(ring(length)), [call(mode) for mode in range(length)])

    def held(self, turning, trees):
        before = copy.deepcopy(turning)
        told = stand(turning)
        self.assertEqual(turning, before)
        known = least(turning)
        self.assertEqual(len(told), len(turning[2]))
        self.assertEqual([mode for mode, term in enumerate(told) if term is not None], reached(turning))
        for mode, (term, stump) in enumerate(zip(told, commons(turning))):
            if term is not None:
                self.assertFalse(keeps(term))
                self.assertEqual(self.as_stump(term), stump)
                for called, branch in calls_in(term):
                    self.assertEqual((branch, known[2][called][0]), (0, turning[2][mode][0]))
                for tree in trees[turning[2][mode][0]]:
                    self.assertEqual(made(known, term, 0, (tree,)), made(turning, call(mode), 0, (tree,)))

    def as_stump(self, term):
        if term[0] == "call":
            return OPEN
        return ("put", term[1], term[3], tuple(self.as_stump(part) for part in term[4]))

    def test_against_outcomes(self):
        chance = random.Random(44)
        for number in range(160):
            wood, deepest = [(LIST, 4), (WOOD, 3), (LINE, 6), (SMALL, 3)][number % 4]
            turning = alike_turning(chance, wood, chance.randrange(1, 8), 0.1)
            if number % 3 == 0:
                turning = rewritten(chance, grown_turning(chance, wood, chance.randrange(1, 4), 3))
            trees = {kind: [own_marks(tree) for tree in all_trees(wood, kind, deepest - 1, 0)]
                     + [grown_tree(chance, wood, kind, deepest)] for kind, rows in wood}
            self.held(turning, trees)


class TestOwn(unittest.TestCase):
    def test_the_wood_and_the_modes_are_new(self):
        tells_new_turnings(self, least)

    def test_stands_are_new(self):
        told = stand(TURN)
        again = stand(TURN)
        told.clear()
        self.assertEqual(stand(TURN), again)

    def test_kinds(self):
        tells_turnings(self, least)
        stands = stand(read_turning(LINE, "*q0; q t l : a5(b); q t n : a5(c); r t l : a; r t n : a"))
        self.assertEqual([type(each) for each in stands], [tuple, type(None)])
        self.assertEqual([type(each) for each in stands[0]], [str, str, bool, int, tuple])
        self.assertEqual([type(each) for each in stands[0][4][0]], [str, int, int])


if __name__ == "__main__":
    unittest.main()
