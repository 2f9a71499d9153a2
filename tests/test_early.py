import copy
import random
import unittest

from tests.helper import (ADDED, LINE, LIST, MOST, TURN, WOOD, alike_turning, call, grown_turning, line, line_term,
                          makes_the_same, one_odd, put, ring, shows_turnings, some_trees, tells_new_turnings,
                          tells_turnings, wide_term)
from turnery.commons import commons
from turnery.early import early
from turnery.errors import TooGreat
from turnery.running import reached
from turnery.stumps import opens
from turnery.terms import term_size
from turnery.turnings import is_sound
from turnery.turntexts import read_turning, show_turning
from turnery.woods import read_wood

OPEN = ("open",)
SMALL = read_wood("t = l | k | n(t) | m(u t); u = e | f(t)")
# A mode whose common stump is b with one open part, of a size of 2; as a mode of LINE's.
HALF = ("t", [put("b", put("c", kept=True)), put("b", put("c"))])


def stump_term(stump, mode, branch, place=()):
    if stump == OPEN:
        return call((mode, place), branch)
    parts = [stump_term(part, mode, branch, place + (number,)) for number, part in enumerate(stump[3])]
    return put(stump[1], *parts, add=stump[2])


def put_in(term, stumps):
    if term[0] == "call":
        return stump_term(stumps[term[1]], term[1], term[2])
    return term[:4] + (tuple(put_in(part, stumps) for part in term[4]),)


def stands_at(term, place):
    for number in place:
        term = term[4][number]
    return term


def calls_in(term):
    return [term[1]] if term[0] == "call" else [each for part in term[4] for each in calls_in(part)]


def numbered(term, order):
    if term[0] == "call":
        return call(order.index(term[1]), term[2])
    return term[:4] + (tuple(numbered(part, order) for part in term[4]),)


def early_by_words(turning):
    """The early turning, made whole by the document's words, however great it is."""
    stumps = commons(turning)
    start = put_in(turning[1], stumps)
    order = list(dict.fromkeys(calls_in(start)))
    modes = []
    for mode, place in order:
        kind, rules = turning[2][mode]
        rules = [stands_at(put_in(rule, stumps), place) for rule in rules]
        for rule in rules:
            order.extend(each for each in dict.fromkeys(calls_in(rule)) if each not in order)
        modes.append((kind, rules))
    return (turning[0], numbered(start, order), [(kind, [numbered(rule, order) for rule in rules])
                                                 for kind, rules in modes])


class TestSmall(unittest.TestCase):
    def shows(self, wood, *pairs):
        shows_turnings(self, early, wood, pairs)

    def test_the_examples(self):
        self.assertEqual(early(ADDED), ADDED)
        self.assertEqual(show_turning(early(TURN)), "; ".join([
            "top7(*a0 in(*b0 *a0))",
            "a t leaf : d-4", "a t node : e(*a0 *b1 f(*c2 *c2))", "a t pair : call(*d1)",
            "b t leaf : h=", "b t node : *b1", "b t pair : i(j(k(*c0)) call(*d1))",
            "c u leaf : a=", "c u turn : b(c=5(*a0) *b0)",
            "d v end : put=-3"]))

    def test_no_modes(self):
        self.shows(LINE, ("a", "a"), ("a5(b-3 c)", "a5(b-3 c)"))
        for start in [put("a"), put("a", put("b", add=-MOST), add=MOST)]:
            self.assertEqual(early((LIST, start, [])), (LIST, start, []))

    def test_what_all_begin_with_goes_ahead(self):
        self.shows(LINE,
                   ("*q0; q t l : a(b); q t n : a(c)", "a(*a0); a t l : b; a t n : c"),
                   ("x(*q0); q t l : a5(b); q t n : a5(*q0)", "x(a5(*a0)); a t l : b; a t n : a5(*a0)"),
                   ("*q0; q t l : a; q t n : b(*q0)", "*a0; a t l : a; a t n : b(*a0)"),
                   ("*q0; q t l : a(b(c)); q t n : a(b(d))", "a(b(*a0)); a t l : c; a t n : d"))

    def test_a_mode_with_several_opens(self):
        self.shows(LINE,
                   ("*q0; q t l : a(b c); q t n : a(d e)", "a(*a0 *b0); a t l : b; a t n : d; b t l : c; b t n : e"),
                   ("*q0; q t l : a(b= c(d)); q t n : a(x c(*r0)); r t l : d; r t n : e",
                    "a(*a0 c(*b0)); a t l : b=; a t n : x; b t l : d; b t n : *c0; c t l : d; c t n : e"),
                   ("*q0; q t l : a(b c); q t n : a(c *q0)",
                    "a(*a0 *b0); a t l : b; a t n : c; b t l : c; b t n : a(*a0 *b0)"))

    def test_modes_that_are_whole_are_gone(self):
        self.shows(LINE,
                   ("*q0; q t l : a; q t n : *q0", "a"),
                   ("z(*q0 *r0); q t l : a5(b-1); q t n : a5(b-1); r t l : c; r t n : d(*q0)",
                    "z(a5(b-1) *a0); a t l : c; a t n : d(a5(b-1))"),
                   ("*q0; q t l : a(b); q t n : a(*r0); r t l : b; r t n : *r0", "a(b)"))

    def test_a_start_that_is_a_call_alone(self):
        self.shows(LINE,
                   ("*q0; q t l : a=; q t n : b(*q0)", "*a0; a t l : a=; a t n : b(*a0)"),
                   ("*q0; q t l : a3; q t n : a3", "a3"),
                   ("*q0; q t l : a3; q t n : *r0; r t l : a3; r t n : b", "*a0; a t l : a3; a t n : *b0; "
                                                                           "b t l : a3; b t n : b"))

    def test_kept_marks(self):
        self.shows(LINE,
                   ("*q0; q t l : a=; q t n : a=", "*a0; a t l : a=; a t n : a="),
                   ("*q0; q t l : a(b=); q t n : a(b=)", "a(*a0); a t l : b=; a t n : b="),
                   ("*q0; q t l : a(b=1(c)); q t n : a(d=(e=-2))", "a(*a0); a t l : b=1(c); a t n : d=(e=-2)"),
                   ("*q0; q t l : x; q t n : y=(*r0); r t l : a-4(b); r t n : a-4(c=)",
                    "*a0; a t l : x; a t n : y=(a-4(*b0)); b t l : b; b t n : c="))

    def test_what_stands_at_the_place_lies_in_a_mode_that_is_called(self):
        self.shows(LINE,
                   ("*q0; q t l : a(b(c) d); q t n : *r0; r t l : a(b(e) d); r t n : a(b(f(g)) h)",
                    "a(b(*a0) *b0); a t l : c; a t n : *c0; b t l : d; b t n : *d0; "
                    "c t l : e; c t n : f(g); d t l : d; d t n : h"),
                   # There the mode that is called has something whole, or a put with opens of its own.
                   ("*q0; q t l : a(b); q t n : *r0; r t l : a(c(d)); r t n : a(c(e))",
                    "a(*a0); a t l : b; a t n : c(*b0); b t l : d; b t n : e"),
                   ("*q0; q t l : a(b); q t n : *r0; r t l : a(c(d)); r t n : a(c(d))",
                    "a(*a0); a t l : b; a t n : c(d)"))

    def test_the_branch_of_a_call_stays(self):
        wood = read_wood("t = l | n(t t t)")
        self.shows(wood,
                   ("*q0; q t l : a; q t n : b(*r2 *r0 *q1); r t l : c(d e); r t n : c(f *r1)",
                    "*a0; a t l : a; a t n : b(c(*b2 *c2) c(*b0 *c0) *a1); b t l : d; b t n : f; "
                    "c t l : e; c t n : c(*b1 *c1)"))

    def test_numbered_as_met(self):
        self.shows(LINE,
                   # By the start's calls, not by the modes' numbers.
                   ("z(*r0 *p0 *r0 *q0); p t l : a; p t n : b; q t l : c; q t n : d; r t l : e; r t n : f",
                    "z(*a0 *b0 *a0 *c0); a t l : e; a t n : f; b t l : a; b t n : b; c t l : c; c t n : d"),
                   # Mode by mode, not as deep as can be at first.
                   ("z(*p0 *q0); p t l : a; p t n : b(*s0 *r0); q t l : c; q t n : *u0; "
                    "r t l : e; r t n : *v0; s t l : g; s t n : h; u t l : i; u t n : j; v t l : k; v t n : m",
                    "z(*a0 *b0); a t l : a; a t n : b(*c0 *d0); b t l : c; b t n : *e0; "
                    "c t l : g; c t n : h; d t l : e; d t n : *f0; e t l : i; e t n : j; f t l : k; f t n : m"))
        wood = read_wood("t = l | m(t) | n(t)")
        # Row by row.
        self.shows(wood, ("*p0; p t l : a; p t n : b(*q0); p t m : c(*r0); q t l : d; q t m : e; q t n : f; "
                          "r t l : g; r t m : h; r t n : i",
                          "*a0; a t l : a; a t m : c(*b0); a t n : b(*c0); b t l : g; b t m : h; b t n : i; "
                          "c t l : d; c t m : e; c t n : f"))

    def test_what_is_never_met_is_left_out(self):
        self.shows(LINE,
                   ("z; p t l : a; p t n : *p0", "z"),
                   ("*q0; p t l : a; p t n : *p0; q t l : b; q t n : c; r t l : d; r t n : *q0",
                    "*a0; a t l : b; a t n : c"))

    def test_sixty_figures(self):
        turning = (LINE, call(0), [("t", [put("a", put("b", kept=True, add=MOST), add=-MOST),
                                          put("a", put("b", add=MOST), add=-MOST)])])
        self.assertEqual(early(turning), (LINE, put("a", call(0), add=-MOST),
                                          [("t", [put("b", kept=True, add=MOST), put("b", add=MOST)])]))


class TestTheSame(unittest.TestCase):
    def held(self, turning, trees):
        """Holds the early turning against the words of the document; tells how many modes it has."""
        before = copy.deepcopy(turning)
        try:
            told = early(turning)
        except TooGreat:
            by_words = early_by_words(turning)
            self.assertTrue(max(term_size(rule) for kind, rules in by_words[2] for rule in rules) > 400)
            return None
        self.assertEqual(told, early_by_words(turning))
        self.assertEqual(turning, before)
        self.assertTrue(is_sound(*told))
        stumps = commons(turning)
        self.assertEqual(len(told[2]), sum(len(opens(stumps[mode])) for mode in reached(turning)))
        self.assertEqual(commons(told), [OPEN] * len(told[2]))
        self.assertEqual(reached(told), list(range(len(told[2]))))
        self.assertEqual(early(told), told)
        makes_the_same(self, turning, told, trees)
        return len(told[2])

    def test_the_examples(self):
        chance = random.Random(30)
        self.assertEqual(self.held(ADDED, some_trees(chance, LIST, 6)), 2)
        self.assertEqual(self.held(TURN, some_trees(chance, WOOD, 4)), 4)

    def test_rings(self):
        chance = random.Random(31)
        for length in [2, 5, 40]:
            self.assertEqual(self.held(ring(length), [line(deep) for deep in range(1, 41)]), length)
        split_in_two = ring(6, put("a", put("b"), put("c")), put("a", put("b", kept=True), put("d")))
        self.assertEqual(self.held(split_in_two, some_trees(chance, LINE, 12)), 12)
        whole = ring(6, put("a", put("b")), put("a", put("b")))
        self.assertEqual(self.held(whole, some_trees(chance, LINE, 12)), 0)

    def test_grown(self):
        chance = random.Random(32)
        for number in range(120):
            wood, deepest = [(LIST, 5), (WOOD, 4), (LINE, 6)][number % 3]
            self.held(grown_turning(chance, wood, chance.randrange(1, 5), 3), some_trees(chance, wood, deepest))

    def test_grown_alike(self):
        chance = random.Random(33)
        told = []
        for number in range(240):
            wood, deepest = [(LIST, 5), (WOOD, 4), (LINE, 6), (SMALL, 4)][number % 4]
            if number % 3 == 0:
                turning = one_odd(chance, alike_turning(chance, wood, chance.randrange(3, 14), 0))
            else:
                turning = alike_turning(chance, wood, chance.randrange(1, 10), 0.1)
            told.append(self.held(turning, some_trees(chance, wood, deepest)))
        for modes in [0, 1, 2, 3, 4, 5]:
            self.assertGreater(told.count(modes), 2, modes)
        self.assertNotIn(None, told)


class TestTooGreat(unittest.TestCase):
    def tells(self, turning, modes):
        told = early(turning)
        self.assertEqual(len(told[2]), modes)
        self.assertTrue(is_sound(*told))
        return told

    def refuses(self, turning):
        with self.assertRaises(TooGreat) as caught:
            early(turning)
        self.assertIs(type(caught.exception), TooGreat)

    def test_modes_of_one_stump(self):
        for opened in [199, 200, 201, 399]:
            rules = [put("a", *[put("b", kept=True)] * opened), put("a", *[put("b")] * opened)]
            turning = (LINE, call(0), [("t", rules)])
            if opened > 200:
                self.refuses(turning)
            else:
                told = self.tells(turning, opened)
                self.assertEqual(told[1], put("a", *[call(mode) for mode in range(opened)]))

    def test_modes_in_a_row(self):
        def row(last):
            """Each mode calls the next one, 199 before the last."""
            modes = [("t", [put("a", kept=True), call(mode + 1, 0)]) for mode in range(199)]
            return (LINE, call(0), modes + [("t", last)])

        self.tells(row([put("a"), put("b")]), 200)
        self.tells(row([put("a"), put("a")]), 199)
        self.tells(row([put("a", put("b")), put("a", put("c"))]), 200)
        self.refuses(row([put("a", put("b"), put("b")), put("a", put("c"), put("c"))]))
        # What is never met doesn't count.
        turning = row([put("a", put("b"), put("b")), put("a", put("c"), put("c"))])
        self.tells((LINE, call(1), turning[2]), 200)

    def test_a_start_of_a_size_of_four_hundred(self):
        for start, told in [(wide_term(400), 400), (wide_term(400, call(0)), 400), (wide_term(399, call(1)), 400),
                            (wide_term(398, call(1), call(1)), 400), (put("a", *[call(1)] * 199, call(0)), 400),
                            (wide_term(400, call(1)), None), (wide_term(399, call(1), call(1)), None),
                            (put("a", *[call(1)] * 200), None), (put("a", *[call(1)] * 399), None)]:
            turning = (LINE, start, [("t", [put("x"), put("y")]), HALF])
            if told is None:
                self.refuses(turning)
            else:
                self.assertEqual(term_size(early(turning)[1]), told)

    def test_a_start_that_is_a_whole_stump(self):
        whole = [("t", [wide_term(400), call(0, 0)])]
        self.assertEqual(early((LINE, call(0), whole)), (LINE, wide_term(400), []))
        self.refuses((LINE, put("a", call(0)), whole))

    def test_a_rule_of_a_size_of_four_hundred(self):
        for rule, told in [(wide_term(400), 400), (wide_term(400, call(0, 0)), 400), (wide_term(399, call(1, 0)), 400),
                           (wide_term(400, call(1, 0)), None), (put("a", *[call(1, 0)] * 199, call(0, 0)), 400),
                           (put("a", *[call(1, 0)] * 200), None)]:
            modes = [("t", [put("x"), rule]), HALF]
            turning = (LINE, call(0), modes)
            if told is None:
                self.refuses(turning)
                # That of a mode that isn't met, or that is gone, is not looked at.
                self.assertEqual(early((LINE, put("z"), modes)), (LINE, put("z"), []))
            else:
                self.assertEqual(term_size(early(turning)[2][0][1][1]), told)

    def test_a_part_of_a_rule_of_a_size_of_four_hundred(self):
        # All of the rule with the stumps put in has twice this size, and one put more.
        fits = put("b", *[call(1, 0)] * 98, *[put("c")] * 3, call(2, 0), put("c"))
        more = put("b", *[call(1, 0)] * 98, *[put("c")] * 3, call(2, 0), put("c"), put("c"))
        four = ("t", [put("d", put("e"), put("e"), put("f")), put("d", put("e"), put("e"), put("g"))])
        three = ("t", [put("h", put("i"), put("i")), put("h", put("i"), put("j"))])
        for one, other, told in [(fits, fits, True), (fits, more, False), (more, fits, False)]:
            turning = (LINE, call(0), [("t", [put("a", put("x"), put("x")), put("a", one, other)]), four, three])
            if told:
                self.assertEqual([term_size(rules[1]) for kind, rules in self.tells(turning, 4)[2]], [400, 400, 1, 1])
            else:
                self.refuses(turning)

    def test_sixty_levels(self):
        for deep in [1, 2, 30, 58, 59]:
            # The start, and with it the rule, has as many levels, and the stump two.
            for start, modes in [(line_term(deep, call(0)), [HALF]),
                                 (call(0), [("t", [put("x"), line_term(deep, call(1, 0))]), HALF])]:
                told = early((LINE, start, modes))
                found = told[1] if len(modes) == 1 else told[2][0][1][1]
                self.assertEqual(found, line_term(deep, put("b", call(len(modes) - 1))))
        for start, modes in [(line_term(60, call(0)), [HALF]),
                             (call(0), [("t", [put("x"), line_term(60, call(1, 0))]), HALF]),
                             (line_term(2, call(0)), [("t", [line_term(60, put("x")), line_term(60, put("x"))])]),
                             (line_term(60, call(0)), [("t", [line_term(60, put("x")), line_term(60, put("x"))])])]:
            self.refuses((LINE, start, modes))
        deep = [("t", [line_term(60, put("x")), line_term(60, put("x"))])]
        self.assertEqual(early((LINE, call(0), deep)), (LINE, line_term(60, put("x")), []))
        deep = [("t", [line_term(60, put("x")), line_term(60, put("y"))])]
        self.assertEqual(early((LINE, call(0), deep)),
                         (LINE, line_term(60, call(0)), [("t", [put("x"), put("y")])]))
        self.refuses((LINE, put("a", call(0)), deep))

    def test_sixty_levels_of_a_part_of_a_rule(self):
        # Of the rule with the stumps put in, which is deeper, the early mode has what lies from its place on.
        for ahead, deep in [(31, 30), (31, 31), (30, 30), (30, 31), (31, 32), (60, 60), (59, 60)]:
            turning = (LINE, call(0), [("t", [line_term(ahead, put("x")), line_term(60, call(1, 0))]),
                                       ("t", [line_term(deep, put("x")), line_term(deep, put("y"))])])
            found = early_by_words(turning)
            left = 60 + deep - ahead
            self.assertEqual(found[2][0][1][1], line_term(left, call(1)))
            if left <= 60:
                self.assertEqual(early(turning), found)
            else:
                self.refuses(turning)

    def test_refused_soon(self):
        modes = [("t", [put("x"), put("a", *[call(1, 0)] * 399)]), ("t", [wide_term(400), put("a", *[put("c")] * 399)])]
        self.refuses((LINE, call(0), modes))
        self.refuses((LINE, put("a", *[call(1)] * 399), modes))


class TestOwn(unittest.TestCase):
    def test_the_wood_and_the_modes_are_new(self):
        tells_new_turnings(self, early)

    def test_kinds(self):
        tells_turnings(self, early)
        stump_put = early(read_turning(LINE, "*q0; q t l : a5(b); q t n : a5(c)"))[1]
        self.assertEqual([type(each) for each in stump_put], [str, str, bool, int, tuple])
        self.assertIs(stump_put[2], False)


if __name__ == "__main__":
    unittest.main()
