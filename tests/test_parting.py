import copy
import random
import unittest

from tests.helper import (ADDED, LINE, LIST, MOST, TURN, WOOD, alike_turning, all_trees, call, grown_turning,
                          line_term, made, odd_at_the_end, one_odd, own_marks, put, rewritten, ring, wide_term)
from turnery.counting import seen
from turnery.errors import OtherWood, TooGreat
from turnery.least import least, stand
from turnery.papers import is_paper
from turnery.parting import held
from turnery.trees import levels
from turnery.turntexts import read_turning
from turnery.woods import is_of, read_wood

SMALL = read_wood("t = l | k | n(t) | m(u t); u = e | f(t)")
TWO = read_wood("t = l | n(t t)")
# Each kind has two rows without branches, and a row with a branch of the other kind.
KINDS = read_wood("t = l | k | n(t t) | p(u); u = e | f(t u) | g")
# Turnings that go too great when they are made early.
DEEP = (LINE, put("a", call(0)), [("t", [line_term(60, put("x")), line_term(60, put("y"))])])
MANY = (LINE, call(0), [("t", [put("a", *[put("b", kept=True)] * 201), put("a", *[put("b")] * 201)])])


def delayed_turning(chance, wood):
    """Some turning of the wood that mostly calls, so that what its rules put out shows only far down."""
    turning = alike_turning(chance, wood, chance.randrange(2, 14), 0, calling=0.85)
    return one_odd(chance, (wood, call(0), turning[2]))


class Held(unittest.TestCase):
    def told(self, one, other):
        """What is told, with what is handed in staying as it is."""
        before = copy.deepcopy((one, other))
        answer = held(one, other)
        self.assertEqual((one, other), before)
        self.assertEqual(held(one, other), answer)
        return answer

    def same(self, one, other):
        told = self.told(one, other)
        self.assertEqual(told, ("same", least(one), stand(one), stand(other)))
        self.assertEqual(told[1], least(other))
        self.assertTrue(is_paper(one, told[2], told[1]))
        self.assertTrue(is_paper(other, told[3], told[1]))

    def parted(self, one, other, many=None):
        """The number of levels of the tree that parts both, which is looked at."""
        told = self.told(one, other)
        self.assertEqual((type(told), len(told), told[0]), (tuple, 3, "parted"))
        tree, place = told[1:]
        self.assertTrue(is_of(one[0], one[0][0][0], tree))
        self.assertIs(type(place), tuple)
        pair = [seen(one, tree, place), seen(other, tree, place)]
        self.assertNotIn(None, pair)
        self.assertNotEqual(*pair)
        if many is not None:
            self.assertEqual(levels(tree), many)
        return levels(tree)

    def both(self, one, other, many):
        self.parted(one, other, many)
        self.parted(other, one, many)

    def texts(self, wood, one, other, many):
        self.both(read_turning(wood, one), read_turning(wood, other), many)


class TestSame(Held):
    def test_the_same_itself(self):
        for turning in [ADDED, TURN, ring(2), ring(200), (LINE, put("a"), [])]:
            self.same(turning, turning)
            self.same(turning, least(turning))
            self.same(least(turning), turning)

    def test_an_example(self):
        late = read_turning(LINE, "*q0; q t l : a(b); q t n : a(c(*q0)); r t l : d; r t n : d")
        soon = read_turning(LINE, "a(*q0); q t l : b; q t n : c(a(*r0)); r t l : b; r t n : c(a(*q0))")
        known = read_turning(LINE, "a(*q0); q t l : b; q t n : c(a(*q0))")
        self.assertEqual(held(late, soon), ("same", known, [put("a", call(0)), None], [call(0), call(0)]))
        self.assertEqual(held(soon, late), ("same", known, [call(0), call(0)], [put("a", call(0)), None]))

    def test_rewritten(self):
        chance = random.Random(60)
        for number in range(150):
            wood = [LIST, WOOD, LINE, SMALL, KINDS][number % 5]
            turning = alike_turning(chance, wood, chance.randrange(1, 8), 0.1)
            if number % 3 == 0:
                turning = grown_turning(chance, wood, chance.randrange(1, 5), 3)
            self.same(turning, rewritten(chance, turning))
            self.same(rewritten(chance, turning), rewritten(chance, turning))

    def test_rings(self):
        def round_about(many):
            return (LINE, call(0), [("t", [put("a"), put("b", call((mode + 1) % many, 0))]) for mode in range(many)])

        self.same(round_about(3), round_about(7))
        self.same(round_about(200), round_about(1))
        self.same((LINE, call(0), ring(3, last=put("a"))[2]), (LINE, put("a"), []))


class TestParted(Held):
    def test_starts(self):
        for one, other in [("a", "b"), ("a", "a1"), ("a", "a(a)"), ("a(b)", "a(b b)"), ("a(b(c) d)", "a(b(c) e)"),
                           ("a(b(c))", "a(b(d))"), ("a5", "a-5"), ("a(b c)", "a(c c)")]:
            self.texts(LINE, one, other, 1)
            self.texts(LIST, one, other, 1)
        wide = [wide_term(400, end) for end in [put("x"), put("y")]]
        self.both((LINE, wide[0], []), (LINE, wide[1], []), 1)
        deep = [line_term(60, put("x", add=mark)) for mark in [MOST, -MOST]]
        self.both((LINE, deep[0], []), (LINE, deep[1], []), 1)
        self.assertEqual(held((LINE, deep[0], []), (LINE, deep[1], []))[2], (0,) * 59)

    def test_starts_that_put_and_call(self):
        self.texts(LINE, "a", "*q0; q t l : a; q t n : b", 2)
        self.texts(LINE, "b", "*q0; q t l : a; q t n : b", 1)
        self.texts(LINE, "x(a c)", "x(*q0 c); q t l : a; q t n : *r0; r t l : a; r t n : b", 3)
        self.texts(LINE, "*q0; q t l : a; q t n : b", "*q0; q t l : a; q t n : c", 2)
        # Below the put of the one, what is called in both is unlike.
        self.texts(LINE, "a(*q0); q t l : a; q t n : b",
                   "*q0; q t l : a(a); q t n : *r0; r t l : a(b); r t n : x", 3)
        self.texts(LINE, "a(*q0); q t l : a; q t n : b",
                   "*q0; q t l : a(a); q t n : *r0; r t l : a(c); r t n : x", 2)

    def test_marks(self):
        self.texts(LINE, "*q0; q t l : a; q t n : b", "*q0; q t l : a; q t n : b1", 2)
        self.texts(LINE, "*q0; q t l : a=; q t n : b", "*q0; q t l : a; q t n : b", 1)
        self.texts(LINE, "*q0; q t l : a=; q t n : b", "*q0; q t l : a=1; q t n : b", 1)
        self.texts(LINE, "*q0; q t l : a=; q t n : b", "*q0; q t l : a1; q t n : b", 1)
        self.texts(LINE, "*q0; q t l : a; q t n : b(c=)", "*q0; q t l : a; q t n : b(c)", 2)
        self.texts(LINE, "*q0; q t l : a=; q t n : b", "a", 1)
        for number in [0, 1, 2, -1, MOST, -MOST]:
            one = (LINE, call(0), [("t", [put("x"), put("a", kept=True, add=number)])])
            for other in [0, 1, 2, -1, MOST, -MOST]:
                self.both(one, (LINE, call(0), [("t", [put("x"), put("a", add=other)])]), 2)
                if other != number:
                    self.both(one, (LINE, call(0), [("t", [put("x"), put("a", kept=True, add=other)])]), 2)

    def test_marks_of_unlike_names(self):
        """Both keep a mark, and the same where all marks are the same."""
        self.texts(LINE, "*q0; q t l : a=; q t n : a=", "*q0; q t l : a=; q t n : *q0", 2)
        self.texts(LINE, "*q0; q t l : x; q t n : y(*r0); r t l : a=; r t n : a=",
                   "*q0; q t l : x; q t n : y(*r0); r t l : a=; r t n : *r0", 3)
        self.texts(TWO, "*q0; q t l : a=; q t n : *q0", "*q0; q t l : a=; q t n : *q1", 2)
        self.texts(TWO, "*q0; q t l : a=; q t n : *q0", "*q0; q t l : a=; q t n : a=", 2)

    def test_where_two_branches_meet(self):
        self.texts(TWO, "*q0; q t l : a; q t n : b(*q0 *q1)", "*q0; q t l : a; q t n : b(*q1 *q0)", 3)
        self.texts(TWO, "*q0; q t l : a; q t n : b(*q0)", "*q0; q t l : a; q t n : b(*q1)", 3)
        # Of trees of fewer levels both branches come to the same.
        late = "r t l : c(d e); r t n : *s0; s t l : c(d e); s t n : c(d x)"
        self.texts(TWO, "*q0; q t l : a; q t n : *r0; " + late, "*q0; q t l : a; q t n : *r1; " + late, 4)
        late = "r t l : c(d e); r t n : *s1; s t l : c(d e); s t n : c(*r0 x)"
        self.texts(TWO, "*q0; q t l : a; q t n : y(*r0); " + late, "*q0; q t l : a; q t n : y(*r1); " + late, 4)

    def test_a_place_that_only_one_has_on_leaves(self):
        """What lies above is unlike with the leaves, below which both call on unlike branches."""
        self.texts(TWO, "*q0; q t l : x; q t n : a(*q0)", "*q0; q t l : x; q t n : *r1; r t l : b; r t n : a(*q0)", 2)
        self.texts(TWO, "*q0; q t l : x; q t n : a(a(*q0) *q1)",
                   "*q0; q t l : x; q t n : *r0; r t l : a; r t n : a(*q0 *q1)", 2)

    def test_deep_terms_on_unlike_branches(self):
        """As deep as can be: what is put out in one go down to a call, that then meets what another one makes."""
        for end, many in [(call(1, 0), 3), (call(1, 1), 3)]:
            one = (TWO, call(0), [("t", [put("x"), line_term(60, end)]), ("t", [line_term(60, put("a")), put("z")])])
            other = (TWO, call(0), [("t", [put("x"), line_term(60, call(1, 0))]),
                                    ("t", [line_term(60, put("a")), call(2, 1)]),
                                    ("t", [line_term(60, put("a")), put("a")])])
            self.both(one, other, many)

    def test_only_far_down(self):
        # The first that is unlike stands at the end of what is put out.
        for deep in [1, 2, 7, 13]:
            one = (LINE, call(0), [("t", [put("a"), put("b", call(0, 0))])])
            modes = [("t", [put("a"), put("b", call(mode + 1, 0))]) for mode in range(deep)]
            other = (LINE, call(0), modes + [("t", [put("c"), put("b", call(deep, 0))])])
            self.both(one, other, deep + 1)
            self.assertEqual(held(one, other)[2], (0,) * deep)

    def test_long_places(self):
        """Places of more numbers than may be handed in."""
        rule = line_term(60, call(0, 0))
        one = (LINE, call(0), [("t", [put("a"), rule])])
        modes = [("t", [put("a"), line_term(60, call(mode + 1, 0))]) for mode in range(5)]
        other = (LINE, call(0), modes + [("t", [put("c"), put("b")])])
        tree, place = held(one, other)[1:]
        self.assertEqual((levels(tree), place), (6, (0,) * 59 * 5))

    def test_rings(self):
        whole = (LINE, put("a"), [])
        for length in [1, 2, 3, 17, 39, 40]:
            self.both(ring(length), whole, length)
            self.both(ring(length), ring(200), length)
            self.both(ring(length, put("a", put("b")), put("a", put("c"))), (LINE, put("a", put("b")), []), length)
            self.both(ring(length, put("a"), put("a", kept=True)), whole, length)

    def test_rings_of_more_than_forty(self):
        whole = (LINE, put("a"), [])
        for length in [41, 42, 80, 200]:
            for pair in [(ring(length), whole), (whole, ring(length)), (ring(length), ring(length - 1))]:
                if length > 41 or pair[1] != ring(40):
                    with self.assertRaises(TooGreat) as caught:
                        held(*pair)
                    self.assertIs(type(caught.exception), TooGreat)
        self.both(ring(41), ring(40), 40)

    def test_rows_with_branches_that_part_at_forty_and_more(self):
        for many in [1, 2, 38, 39]:
            self.both(odd_at_the_end(many), (LINE, put("a"), []), many + 1)
        for many in [40, 41, 200]:
            for pair in [(odd_at_the_end(many), (LINE, put("a"), [])), ((LINE, put("a"), []), odd_at_the_end(many))]:
                with self.assertRaises(TooGreat):
                    held(*pair)

    def test_rings_down_unlike_branches(self):
        def down(many, branch):
            ends = [put("a", put("b"), put("c"))] * (many - 1) + [put("a", put("b"), put("d"))]
            return (TWO, call(0), [("t", [end, call((mode + 1) % many, branch)]) for mode, end in enumerate(ends)])

        for many in [3, 9, 40]:
            self.both(down(many, 0), down(many, 1), many)
        for pair in [(down(41, 0), down(41, 1)), (down(41, 1), down(200, 0))]:
            with self.assertRaises(TooGreat):
                held(*pair)


class TestAgainstAllTrees(Held):
    def against(self, one, other, room):
        """Whether both make the same, or else the number of levels, which all trees of so many are held against."""
        wood = one[0]
        told = held(one, other)[0]
        many = self.parted(one, other) if told == "parted" else None
        for deep in range(1, room + 1 if many is None else min(room + 1, many)):
            for tree in all_trees(wood, wood[0][0], deep, 0):
                tree = own_marks(tree)
                self.assertEqual(made(one, one[1], 0, (tree,)), made(other, other[1], 0, (tree,)))
        if many is None:
            self.same(one, other)
        self.assertEqual(held(other, one)[0], told)
        return many

    def turnings(self, chance, number, wood):
        one = alike_turning(chance, wood, chance.randrange(1, 10), 0.1 if number % 2 else 0)
        if number % 3 == 0:
            one = grown_turning(chance, wood, chance.randrange(1, 5), 3)
        return one, one_odd(chance, one)

    def test_grown(self):
        chance = random.Random(61)
        found = []
        for number in range(500):
            wood, room = [(LIST, 4), (WOOD, 3), (LINE, 7), (SMALL, 3), (TWO, 3), (KINDS, 3)][number % 6]
            one, other = self.turnings(chance, number, wood)
            found.append(self.against(one, rewritten(chance, other) if number % 5 == 0 else other, room))
        for many, least_often in [(None, 50), (1, 50), (2, 50), (3, 10), (4, 2)]:
            self.assertGreater(found.count(many), least_often, many)

    def test_delayed(self):
        chance = random.Random(62)
        found = []
        for number in range(900):
            wood, room = [(TWO, 4), (KINDS, 3), (LINE, 9)][number % 3]
            one = delayed_turning(chance, wood)
            other = delayed_turning(chance, wood) if number % 4 == 0 else one_odd(chance, one)
            found.append(self.against(one, other, room))
        for many, least_often in [(None, 100), (1, 30), (2, 30), (3, 20), (4, 10), (5, 2)]:
            self.assertGreater(found.count(many), least_often, many)


class TestRefused(Held):
    def refuses(self, error, *pairs):
        for one, other in pairs:
            with self.assertRaises(error) as caught:
                held(one, other)
            self.assertIs(type(caught.exception), error)

    def test_unlike_woods(self):
        for one, other in [("t = l | n(t)", "t = l"), ("t = l | n(t)", "t = l | n(t t)"), ("t = l", "u = l"),
                           ("t = l; u = l", "u = l; t = l"), ("t = l", "t = l; u = l"), ("t = l", "t = m")]:
            first = (read_wood(one), put("a"), [])
            second = (read_wood(other), put("a"), [])
            self.refuses(OtherWood, (first, second), (second, first))

    def test_equal_woods_that_are_not_one(self):
        first = (read_wood("t = n(t) | l"), put("a"), [])
        self.same(first, (read_wood("t = l | n(t)"), put("a"), []))

    def test_other_wood_ahead_of_too_great(self):
        other = (read_wood("t = l | m(t)"), put("a"), [])
        for turning in [DEEP, MANY, ring(41)]:
            self.refuses(TooGreat, (turning, (LINE, put("a"), [])), ((LINE, put("a"), []), turning))
            self.refuses(OtherWood, (turning, other), (other, turning))

    def test_a_least_turning_that_is_too_great(self):
        # Though the starts are unlike already, and though the other one is the same.
        for turning in [DEEP, MANY]:
            for other in [(LINE, put("z"), []), (LINE, call(0), turning[2]), turning, ring(41)]:
                self.refuses(TooGreat, (turning, other), (other, turning))


class TestOwn(Held):
    def test_what_is_told_is_new(self):
        turning = copy.deepcopy(TURN)
        told = held(turning, turning)
        again = held(turning, turning)
        self.assertEqual(told, again)
        told[2].append("x")
        self.assertEqual(told[3], again[3])
        told[1][0][0][1].clear()
        told[1][0].clear()
        for kind, rules in told[1][2]:
            rules.clear()
        told[1][2].clear()
        told[3].clear()
        self.assertEqual(turning, TURN)
        self.assertEqual(held(turning, turning), again)
        turning[0][0][1].clear()
        turning[0].clear()
        turning[2].clear()
        self.assertEqual(again, held(TURN, TURN))

    def test_kinds(self):
        told = held(TURN, TURN)
        self.assertEqual([type(each) for each in told], [str, tuple, list, list])
        told = held(ring(3), ring(4))
        self.assertEqual([type(each) for each in told], [str, tuple, tuple])
        self.assertEqual([type(each) for each in told[1]], [str, int, tuple])


if __name__ == "__main__":
    unittest.main()
