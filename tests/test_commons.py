import copy
import random
import unittest

from tests.helper import (ADDED, LINE, LIST, MOST, TURN, WOOD, alike_turning, call, grown_turning, line, line_term,
                          made, marked_trees, put, ring, wide_term)
from turnery.commons import commons, commons_within
from turnery.stumps import begins, opens, stump_of
from turnery.trees import at
from turnery.turntexts import read_turning
from turnery.woods import read_wood

OPEN = ("open",)
SMALL = read_wood("t = l | k | n(t) | m(u t); u = e | f(t)")


def stump(name, *parts, mark=0):
    return ("put", name, mark, parts)


def common(trees):
    """The stump that the trees have in common, by their names, marks and numbers of branches alone."""
    heads = {(tree[0], tree[1], len(tree[2])) for tree in trees}
    if len(heads) > 1:
        return OPEN
    name, mark, many = heads.pop()
    return stump(name, *[common([tree[2][number] for tree in trees]) for number in range(many)], mark=mark)


def outcomes(turning, mode, room):
    trees = marked_trees(turning[0], turning[2][mode][0], room)
    return [made(turning, call(mode), 0, (tree,)) for tree in trees]


class TestSmall(unittest.TestCase):
    def test_the_examples(self):
        self.assertEqual(commons(ADDED), [OPEN, OPEN])
        self.assertEqual(commons_within(ADDED, 1), [stump("nil"), OPEN])
        self.assertEqual(commons(TURN), [OPEN, OPEN, stump("call", OPEN), OPEN])
        self.assertEqual(commons_within(TURN, 1), [stump("d", mark=-4), OPEN, stump("call", OPEN), OPEN])

    def test_no_modes(self):
        for turning in [(LIST, put("a"), []), (LINE, put("a", put("b"), add=5), [])]:
            self.assertEqual(commons(turning), [])
            for many in [1, 2, 40, 10 ** 9]:
                self.assertEqual(commons_within(turning, many), [])

    def test_kept_marks_are_open(self):
        turning = read_turning(LINE, "*q0; q t l : a3(b= c(d=1(e) f) g-2); q t n : a3(b c(d1(e) f) g-2)")
        told = [stump("a", OPEN, stump("c", OPEN, stump("f")), stump("g", mark=-2), mark=3)]
        self.assertEqual(commons_within(turning, 1), told)
        self.assertEqual(commons(turning), told)
        self.assertEqual(commons(read_turning(LINE, "*q0; q t l : a=; q t n : a")), [OPEN])
        # A mark that is kept by a rule for a row with branches is open from two levels on.
        turning = read_turning(LINE, "*q0; q t l : a(b c); q t n : a(b= c)")
        self.assertEqual(commons_within(turning, 1), [stump("a", stump("b"), stump("c"))])
        self.assertEqual(commons_within(turning, 2), [stump("a", OPEN, stump("c"))])
        self.assertEqual(commons(turning), [stump("a", OPEN, stump("c"))])

    def test_rows_without_branches_alone_at_one_level(self):
        wood = read_wood("t = k | l | n(t) | o(t)")
        turning = read_turning(wood, "*q0; q t k : a(b c d); q t l : a(x c d); q t n : a(b x d); q t o : a(b c d)")
        self.assertEqual(commons_within(turning, 1), [stump("a", OPEN, stump("c"), stump("d"))])
        for many in [2, 3, 50]:
            self.assertEqual(commons_within(turning, many), [stump("a", OPEN, OPEN, stump("d"))])
        self.assertEqual(commons(turning), [stump("a", OPEN, OPEN, stump("d"))])

    def test_names_marks_and_numbers_of_parts(self):
        for other, told in [("a2(b)", stump("a", stump("b"), mark=2)), ("x2(b)", OPEN), ("a1(b)", OPEN),
                            ("a(b)", OPEN), ("a-2(b)", OPEN), ("a2", OPEN), ("a2(b b)", OPEN),
                            ("a2(c)", stump("a", OPEN, mark=2)), ("a2(b1)", stump("a", OPEN, mark=2)),
                            ("a2(b(b))", stump("a", OPEN, mark=2)), ("a2(b=)", stump("a", OPEN, mark=2))]:
            turning = read_turning(LINE, "*q0; q t l : a2(b); q t n : " + other)
            self.assertEqual(commons(turning), [told], other)
            self.assertEqual(commons_within(turning, 2), [told], other)

    def test_calls_give_way_to_what_was_common_before(self):
        # With each level more, what differs is seen one call further.
        turning = read_turning(LINE, "*p0; p t l : a(b); p t n : a(*q0); q t l : b; q t n : *r0; r t l : b; r t n : c")
        whole = stump("a", stump("b"))
        self.assertEqual(commons_within(turning, 1), [whole, stump("b"), stump("b")])
        self.assertEqual(commons_within(turning, 2), [whole, stump("b"), OPEN])
        self.assertEqual(commons_within(turning, 3), [whole, OPEN, OPEN])
        for many in [4, 5, 6, 100]:
            self.assertEqual(commons_within(turning, many), [stump("a", OPEN), OPEN, OPEN])
        self.assertEqual(commons(turning), [stump("a", OPEN), OPEN, OPEN])

    def test_a_call_against_a_put_and_a_call_against_a_call(self):
        turning = read_turning(LINE, "*p0; p t l : a(b(c) b(c)); p t n : a(*q0 *r0); q t l : b(c); q t n : b(c); "
                                     "r t l : b(d); r t n : b(c)")
        self.assertEqual(commons(turning), [stump("a", stump("b", stump("c")), stump("b", OPEN)),
                                            stump("b", stump("c")), stump("b", OPEN)])

    def test_sixty_figures(self):
        for mark in [MOST, -MOST, 0, 1, -1]:
            for other in [MOST, -MOST, 0, 1, -1]:
                turning = (LINE, call(0), [("t", [put("a", put("b", add=mark), add=mark),
                                                  put("a", put("b", add=other), add=mark)])])
                inner = stump("b", mark=mark) if mark == other else OPEN
                self.assertEqual(commons(turning), [stump("a", inner, mark=mark)])

    def test_kinds(self):
        for told in [commons(TURN), commons_within(TURN, 1)]:
            self.assertIs(type(told), list)
            self.assertEqual([type(each) for each in told], [tuple] * 4)
            self.assertEqual([type(each) for each in told[2]], [str, str, int, tuple])


class TestRings(unittest.TestCase):
    def test_a_mode_that_calls_itself(self):
        self.assertEqual(commons(read_turning(LINE, "*q0; q t l : a; q t n : *q0")), [stump("a")])
        self.assertEqual(commons(read_turning(LINE, "*q0; q t l : a(b); q t n : *q0")), [stump("a", stump("b"))])
        self.assertEqual(commons(read_turning(LINE, "*q0; q t l : a(b= c); q t n : *q0")),
                         [stump("a", OPEN, stump("c"))])
        self.assertEqual(commons(read_turning(LINE, "*q0; q t l : a(a(b)); q t n : a(*q0)")),
                         [stump("a", stump("a", OPEN))])
        self.assertEqual(commons(read_turning(LINE, "*q0; q t l : a(a(a)); q t n : a(*q0)")),
                         [stump("a", stump("a", OPEN))])

    def test_a_ring_of_modes(self):
        for many in [1, 2, 3, 7, 41, 200]:
            turning = ring(many)
            if many == 1:
                self.assertEqual(commons(turning), [stump("b")])
                continue
            self.assertEqual(commons(turning), [OPEN] * many)
            # The first mode comes to something else on many levels, the second with one less; the last with two.
            for room in {1, 2, many // 2, many - 1, many, many + 1} - {0}:
                told = commons_within(turning, room)
                needed = [many - mode for mode in range(many - 1)] + [2]
                ends = [stump("a")] * (many - 1) + [stump("b")]
                self.assertEqual(told, [OPEN if room >= need else end for need, end in zip(needed, ends)], (many, room))

    def test_rings_beside_what_is_common(self):
        turning = ring(5, put("a", put("c"), put("d", put("e"))), put("a", put("c"), put("d", put("f"))))
        self.assertEqual(commons(turning), [stump("a", stump("c"), stump("d", OPEN))] * 5)
        self.assertEqual(commons_within(turning, 4)[0], stump("a", stump("c"), stump("d", stump("e"))))
        turning = ring(5, put("a", put("c")), put("a", put("c")))
        self.assertEqual(commons(turning), [stump("a", stump("c"))] * 5)

    def test_modes_that_are_not_reached(self):
        turning = read_turning(LINE, "z; p t l : a; p t n : *q0; q t l : a; q t n : b; r t l : c(d); r t n : c(d)")
        self.assertEqual(commons(turning), [OPEN, OPEN, stump("c", stump("d"))])
        self.assertEqual(commons_within(turning, 2), [stump("a"), OPEN, stump("c", stump("d"))])

    def test_what_differs_goes_round_again_and_again(self):
        # Each round through the ring opens one place more, one level further down.
        def comb(many, last):
            term = put("a", put("c"), put("b"))
            for _ in range(many - 2):
                term = put("a", term, put("b"))
            return put("a", term, last)

        deep, many = 8, 6
        leaf = comb(deep, put("b"))
        wood = read_wood("t = l | m(t) | n(t)")
        modes = [("t", [leaf, comb(deep, put("x")), put("a", call(many - 1, 0), put("b"))])]
        modes += [("t", [leaf, leaf, call(mode - 1, 0)]) for mode in range(1, many)]
        turning = (wood, call(0), modes)
        told = commons(turning)
        self.assertEqual([len(opens(each)) for each in told], [deep + 1] * many)
        last = 1
        while commons_within(turning, last) != told:
            last += 1
        # Each place but the first is open one round later, and the last one's beginning is there from the first on.
        self.assertEqual(last, 2 + (many - 1) + (deep - 1) * many)
        self.assertEqual(commons_within(turning, 10 ** 30), told)


class TestAgainstOutcomes(unittest.TestCase):
    def held(self, turning, most):
        """Holds what is told against the outcomes of all small trees; tells the greatest number of opens."""
        before = copy.deepcopy(turning)
        told = commons(turning)
        stages = [commons_within(turning, room) for room in range(1, most + 1)]
        for mode in range(len(turning[2])):
            for room, stage in enumerate(stages, start=1):
                found = outcomes(turning, mode, room)
                self.assertEqual(stage[mode], common(found), (turning, mode, room))
            self.assertTrue(all(begins(told[mode], tree) for tree in found))
        for many in [200, 201]:
            self.assertEqual(commons_within(turning, many), told)
        self.assertEqual(turning, before)
        return max(len(opens(each)) for each in told)

    def test_the_examples(self):
        self.held(TURN, 3)
        self.held(ADDED, 5)

    def test_grown(self):
        chance = random.Random(11)
        for number in range(90):
            wood, most = [(LIST, 4), (WOOD, 3), (LINE, 5)][number % 3]
            self.held(grown_turning(chance, wood, chance.randrange(1, 4), 3), most)

    def test_grown_alike(self):
        chance = random.Random(12)
        many = []
        for number in range(400):
            wood, most = [(LIST, 4), (WOOD, 3), (LINE, 6), (SMALL, 3)][number % 4]
            odd = [0.02, 0.1, 0.25][number % 3]
            many.append(self.held(alike_turning(chance, wood, chance.randrange(1, 6), odd), most))
        for opened in [0, 1, 2, 3]:
            self.assertGreater(many.count(opened), 3)

    def test_at_each_open_place_two_outcomes_are_unlike(self):
        chance = random.Random(13)
        for _ in range(40):
            turning = alike_turning(chance, LINE, 4, 0.1)
            for mode, told in enumerate(commons(turning)):
                # Four modes have called one another in all ways within so many levels.
                found = outcomes(turning, mode, 13)
                self.assertEqual(told, common(found))
                for place in opens(told):
                    heads = {at(tree, place)[:2] + (len(at(tree, place)[2]),) for tree in found}
                    self.assertGreater(len(heads), 1)

    def test_modes_without_calls(self):
        self.assertEqual(commons((LINE, call(0), [("t", [put("a"), put("a")])])), [stump("a")])
        one = read_wood("t = l")
        self.assertEqual(commons((one, call(0), [("t", [put("a", put("b"))])])), [stump("a", stump("b"))])


class TestGreat(unittest.TestCase):
    def test_terms_of_sixty_levels(self):
        for end, other in [("b", "b"), ("b", "c")]:
            turning = (LINE, call(0), [("t", [line_term(60, put(end)), line_term(60, put(other))])])
            told = commons(turning)[0]
            self.assertEqual(opens(told), [] if end == other else [(0,) * 59])
            self.assertEqual(begins(told, made(turning, call(0), 0, (("l", 0, ()),))), True)
        turning = (LINE, call(0), [("t", [line_term(60, put("b")), line_term(30, call(1, 0))]),
                                   ("t", [line_term(31, put("b")), line_term(30, put("c", put("d")))])])
        self.assertEqual([opens(each) for each in commons(turning)], [[(0,) * 58], [(0,) * 29]])

    def test_terms_of_a_size_of_four_hundred(self):
        calls = put("a", *[call(0, 0)] * 399)
        self.assertEqual(commons((LINE, call(0), [("t", [wide_term(400), wide_term(400)])])),
                         [stump_of(made(None, wide_term(400), 0, ()))])
        self.assertEqual(commons((LINE, call(0), [("t", [wide_term(400), calls])])), [stump("a", *[OPEN] * 399)])
        self.assertEqual(commons((LINE, call(0), [("t", [calls[:4] + ((put("b"),) * 398,), calls])])), [OPEN])

    def test_two_hundred_modes_that_all_call_one_another(self):
        for last in [put("b"), put("x")]:
            modes = [("t", [wide_term(200), put("a", *[call(each, 0) for each in range(1, 200)])])]
            modes += [("t", [put("b"), call((mode * 7 + 1) % 199 + 1, 0)]) for mode in range(1, 199)]
            modes += [("t", [last, call(1, 0)])]
            told = commons((LINE, call(0), modes))
            self.assertEqual(len(told), 200)
            outcome = made((LINE, call(0), modes), call(0), 0, (line(40),))
            self.assertTrue(begins(told[0], outcome))
            if last == put("b"):
                self.assertEqual(told[1:], [stump("b")] * 199)

    def test_soon(self):
        # Put in where they are called, stumps would come to a size of four hundred times four hundred.
        modes = [("t", [wide_term(400), put("a", *[call(mode, 0)] * 399)]) for mode in range(100)]
        self.assertEqual(commons((LINE, call(0), modes)), [stump("a", *[OPEN] * 399)] * 100)


class TestOwn(unittest.TestCase):
    def test_new_lists(self):
        turning = copy.deepcopy(TURN)
        for ask in [commons, lambda each: commons_within(each, 1), lambda each: commons_within(each, 9)]:
            first = ask(turning)
            again = ask(turning)
            self.assertEqual(first, again)
            first.clear()
            first.append("x")
            self.assertEqual(ask(turning), again)
            self.assertEqual(turning, TURN)

    def test_what_is_done_later_to_what_was_handed_in(self):
        turning = copy.deepcopy(TURN)
        told = [commons(turning), commons_within(turning, 1)]
        turning[2][2][1][0] = put("x")
        self.assertEqual(told, [commons(TURN), commons_within(TURN, 1)])
        self.assertEqual(commons(turning)[2], stump("x"))
        turning[0].clear()
        turning[2].clear()
        self.assertEqual(told, [commons(TURN), commons_within(TURN, 1)])


if __name__ == "__main__":
    unittest.main()
