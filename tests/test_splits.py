import copy
import random
import unittest

from tests.helper import (ADDED, LINE, LIST, MOST, TURN, WOOD, alike_turning, all_trees, call, grown_turning, line,
                          line_term, made, marked_trees, one_odd, put, ring, wide_term)
from turnery.commons import commons
from turnery.counting import seen_in
from turnery.errors import TooGreat
from turnery.splits import heeded, split
from turnery.stumps import opens
from turnery.trees import at, levels, places, put_at, size
from turnery.turntexts import read_turning
from turnery.woods import is_of, leaf_of, read_wood

SMALL = read_wood("t = l | k | n(t) | m(u t); u = e | f(t)")
FOUR = read_wood("t = l | n(t t t t)")


def head_at(tree, place):
    found = at(tree, place)
    return (found[0], found[1], len(found[2]))


def grown(chance, number):
    """One after the other some turnings of several sorts, and how many levels all trees of their woods may have."""
    wood, most = [(LIST, 4), (WOOD, 3), (LINE, 7), (SMALL, 3)][number % 4]
    if number % 5 == 4:
        return (grown_turning(chance, wood, chance.randrange(1, 4), 2), most)
    if number % 5 < 2:
        return (alike_turning(chance, wood, chance.randrange(2, 7), 0.08), most)
    return (one_odd(chance, alike_turning(chance, wood, chance.randrange(6, 14), 0)), most)


def first_unlike(trees_by_levels, head):
    """The least number of levels with which two of the trees have unlike heads, or None."""
    for many, trees in enumerate(trees_by_levels, start=1):
        if len({head(tree) for tree in trees}) > 1:
            return many
    return None


class SplitCase(unittest.TestCase):
    def splits(self, turning, mode, place):
        """Holds a split against its words; tells how many levels it needs."""
        before = copy.deepcopy(turning)
        pair = split(turning, mode, place)
        self.assertIs(type(pair), tuple)
        self.assertEqual(len(pair), 2)
        for tree in pair:
            self.assertTrue(is_of(turning[0], turning[2][mode][0], tree))
            self.assertLessEqual(size(tree), 200)
        told = [seen_in(turning, mode, tree, place) for tree in pair]
        self.assertNotIn(None, told)
        self.assertNotEqual(told[0], told[1])
        self.assertEqual(turning, before)
        self.assertEqual(split(turning, mode, place), pair)
        return max(levels(tree) for tree in pair)

    def heeds(self, turning, mode, name, branch):
        """Holds what is told of a heeded branch against its words; tells how many levels it needs."""
        before = copy.deepcopy(turning)
        told = heeded(turning, mode, name, branch)
        self.assertIs(type(told), tuple)
        one, other, place = told
        self.assertIs(type(place), tuple)
        for tree in (one, other):
            self.assertTrue(is_of(turning[0], turning[2][mode][0], tree))
            self.assertEqual(tree[0], name)
            self.assertLessEqual(size(tree), 200)
        self.assertEqual(put_at(one, (branch,), at(other, (branch,))), other)
        seen = [seen_in(turning, mode, tree, place) for tree in (one, other)]
        self.assertNotIn(None, seen)
        self.assertNotEqual(seen[0], seen[1])
        self.assertEqual(turning, before)
        self.assertEqual(heeded(turning, mode, name, branch), told)
        return max(levels(one), levels(other))


class TestSplit(SplitCase):
    def test_the_example(self):
        self.assertEqual(self.splits(ADDED, 0, ()), 2)
        self.assertEqual(self.splits(ADDED, 1, ()), 1)
        self.assertEqual(self.splits(TURN, 2, (0,)), 1)
        for place in [(0,), (1,), (0, 0), (-1,)]:
            self.assertIsNone(split(ADDED, 0, place))
        for place in [(), (0, 0), (1,), (-1,), (0, -1)]:
            self.assertIsNone(split(TURN, 2, place))

    def test_unlike_in_name_mark_or_number_of_branches(self):
        for other in ["x2(b)", "a3(b)", "a(b)", "a-2(b)", "a2", "a2(b b)", "a=(b)", "a=2(b)", "a=-2(b)", "a=1(b)"]:
            turning = read_turning(LINE, "*q0; q t l : a2(b); q t n : " + other)
            self.assertEqual(self.splits(turning, 0, ()), 2, other)
            self.assertIsNone(split(turning, 0, (0,)))
            turning = read_turning(LINE, "*q0; q t l : c(a2(b)); q t n : c(" + other + ")")
            self.assertEqual(self.splits(turning, 0, (0,)), 2, other)
            self.assertIsNone(split(turning, 0, ()))
            self.assertIsNone(split(turning, 0, (0, 0)))

    def test_kept_marks(self):
        for rules in ["q t l : a=; q t n : b", "q t l : a=; q t n : a=", "q t l : a=1; q t n : *q0"]:
            self.assertEqual(self.splits(read_turning(LINE, "*q0; " + rules), 0, ()), 1)
        self.assertEqual(self.splits(read_turning(LINE, "*q0; q t l : a; q t n : a="), 0, ()), 2)
        self.assertEqual(self.splits(read_turning(LINE, "*q0; q t l : a1; q t n : a="), 0, ()), 2)
        self.assertEqual(self.splits(read_turning(LINE, "*q0; q t l : a; q t n : a=-1"), 0, ()), 2)

    def test_two_rows_without_branches(self):
        wood = read_wood("t = k | l | n(t)")
        self.assertEqual(self.splits(read_turning(wood, "*q0; q t k : a; q t l : b; q t n : c"), 0, ()), 1)
        self.assertEqual(self.splits(read_turning(wood, "*q0; q t k : a; q t l : a; q t n : c"), 0, ()), 2)
        # A leaf that is not the first one is needed on the branch.
        turning = read_turning(wood, "*p0; p t k : a; p t l : a; p t n : *q0; q t k : a; q t l : b; q t n : a")
        self.assertEqual(self.splits(turning, 0, ()), 2)
        turning = read_turning(wood, "*p0; p t k : a; p t l : a; p t n : *q0; q t k : b; q t l : a; q t n : a")
        self.assertEqual(self.splits(turning, 0, ()), 2)

    def test_the_branch_that_is_called(self):
        for branch in range(4):
            text = f"*p0; p t l : a; p t n : b(*q{branch}); q t l : c; q t n : d; r t l : b(c); r t n : *p{branch}"
            turning = read_turning(FOUR, text)
            self.assertEqual(self.splits(turning, 0, ()), 2)
            self.assertEqual(self.splits(turning, 2, ()), 2)
            text = f"*p0; p t l : a(b c); p t n : a(*q{branch} c); q t l : b; q t n : *r{branch}; r t l : b; r t n : c"
            turning = read_turning(FOUR, text)
            self.assertEqual(self.splits(turning, 0, (0,)), 4)
            self.assertEqual(self.splits(turning, 1, ()), 3)
            self.assertEqual(self.splits(turning, 2, ()), 2)

    def test_the_shorter_one_of_two_ways(self):
        wood = read_wood("t = l | m(t) | n(t)")
        text = "*p0; p t l : a; p t m : *q0; p t n : *s0; q t l : a; q t m : *r0; q t n : a; r t l : a; r t m : b; " \
               "r t n : a; s t l : a; s t m : a; s t n : b"
        turning = read_turning(wood, text)
        self.assertEqual([self.splits(turning, mode, ()) for mode in range(4)], [3, 3, 2, 2])
        turning = read_turning(wood, text.replace("p t m : *q0; p t n : *s0", "p t m : *s0; p t n : *q0"))
        self.assertEqual([self.splits(turning, mode, ()) for mode in range(4)], [3, 3, 2, 2])

    def test_none_for_every_other_place(self):
        chance = random.Random(21)
        for number in range(60):
            wood = [LIST, WOOD, LINE, SMALL][number % 4]
            turning = alike_turning(chance, wood, 4, 0.1)
            for mode, stump in enumerate(commons(turning)):
                leaf = leaf_of(wood, turning[2][mode][0])
                for place in places(made(turning, call(mode), 0, (leaf,))):
                    for asked in [place, place + (0,), place + (-1,), place + (9,), (-1,) + place]:
                        if asked not in opens(stump):
                            self.assertIsNone(split(turning, mode, asked))

    def test_open_early_but_not_in_the_end(self):
        # Two levels make the part unlike, three the whole, of which the part then is no open place.
        turning = read_turning(LINE, "*p0; p t l : a(b); p t n : *q0; q t l : a(c); q t n : d")
        self.assertIsNone(split(turning, 0, (0,)))
        self.assertEqual(self.splits(turning, 0, ()), 3)

    def test_places_far_down(self):
        for many in [59, 60]:
            turning = (LINE, call(0), [("t", [line_term(many, put("b")), line_term(many, put("c"))])])
            self.assertEqual(self.splits(turning, 0, (0,) * (many - 1)), 2)
            for other in [many - 2, many]:
                self.assertIsNone(split(turning, 0, (0,) * other))
        # Half of the way lies in the mode that is called.
        turning = (LINE, call(0), [("t", [line_term(60, put("b")), line_term(30, call(1, 0))]),
                                   ("t", [line_term(31, put("b")), line_term(31, put("c"))])])
        self.assertEqual(self.splits(turning, 0, (0,) * 59), 3)
        self.assertEqual(self.splits(turning, 1, (0,) * 30), 2)
        self.assertIsNone(split(turning, 0, (0,) * 200))
        wide = (LINE, call(0), [("t", [wide_term(400), put("a", *[put("b")] * 398, put("c"))])])
        self.assertEqual(self.splits(wide, 0, (398,)), 2)
        self.assertIsNone(split(wide, 0, (397,)))

    def test_sixty_figures(self):
        for add in [MOST, -MOST, MOST - 1]:
            turning = (LINE, call(0), [("t", [put("a", put("b", add=add), kept=True, add=add), put("a", put("b"))])])
            self.assertEqual(self.splits(turning, 0, ()), 1)
            turning = (LINE, call(0), [("t", [put("a", put("b", add=add)), put("a", put("b", add=-add, kept=True))])])
            self.assertEqual(self.splits(turning, 0, (0,)), 2)

    def test_no_modes_reached_and_none_open(self):
        turning = read_turning(LINE, "z; p t l : a; p t n : *q0; q t l : a; q t n : b; r t l : c; r t n : *r0")
        self.assertEqual([self.splits(turning, mode, ()) for mode in [0, 1]], [3, 2])
        for place in [(), (0,), (-1,)]:
            self.assertIsNone(split(turning, 2, place))

    def test_against_all_small_trees(self):
        chance = random.Random(22)
        needed = []
        for number in range(150):
            turning, most = grown(chance, number)
            for mode, stump in enumerate(commons(turning)):
                kind = turning[2][mode][0]
                made_of = [[made(turning, call(mode), 0, (tree,)) for tree in marked_trees(turning[0], kind, room)]
                           for room in range(1, most + 1)]
                for place in opens(stump):
                    told = self.splits(turning, mode, place)
                    least = first_unlike(made_of, lambda tree: head_at(tree, place))
                    if least is None:
                        self.assertGreater(told, most)
                    else:
                        self.assertEqual(told, least)
                    needed.append(told)
        for many in [1, 2, 3, 4]:
            self.assertGreater(needed.count(many), 5, needed)


class TestSplitOfRings(SplitCase):
    def test_as_many_levels_as_the_ring_is_long(self):
        for many in [2, 3, 8, 39, 40]:
            turning = ring(many)
            for mode in {0, 1, many // 2, many - 1}:
                self.assertEqual(self.splits(turning, mode, ()), 2 if mode == many - 1 else many - mode)
            self.assertIsNone(split(turning, 0, (0,)))

    def test_forty_levels_are_told_and_more_refused(self):
        for many in [40, 41, 42, 80, 200]:
            turning = ring(many)
            for mode in [many - 41, many - 42, 0]:
                if 0 <= mode < many - 40:
                    with self.assertRaises(TooGreat) as caught:
                        split(turning, mode, ())
                    self.assertIs(type(caught.exception), TooGreat)
                    # What isn't open is told of first.
                    self.assertIsNone(split(turning, mode, (0,)))
            self.assertEqual(self.splits(turning, many - 40, ()), 40)

    def test_deep_down(self):
        for many in [39, 40, 41]:
            turning = ring(many, put("a", put("b"), put("c", put("d"))), put("a", put("b"), put("c", put("e"))))
            if many > 40:
                self.assertRaises(TooGreat, split, turning, 0, (1, 0))
            else:
                self.assertEqual(self.splits(turning, 0, (1, 0)), many)
            self.assertIsNone(split(turning, 0, (1,)))
            self.assertIsNone(split(turning, 0, ()))

    def test_by_a_row_with_branches_at_the_end(self):
        # The last mode makes the same of each leaf, so that it takes one level more.
        for many in [39, 40]:
            modes = [("t", [put("a"), call(mode + 1, 0)]) for mode in range(many - 1)]
            modes.append(("t", [put("a"), put("b")]))
            turning = (LINE, call(0), modes)
            if many == 40:
                self.assertRaises(TooGreat, split, turning, 0, ())
                self.assertEqual(self.splits(turning, 1, ()), 40)
            else:
                self.assertEqual(self.splits(turning, 0, ()), 40)

    def test_wide_rows(self):
        for many in [40, 41]:
            modes = [("t", [put("a"), call(mode + 1, mode % 4)]) for mode in range(many - 1)]
            modes.append(("t", [put("a", kept=True), put("a")]))
            turning = (FOUR, call(0), modes)
            if many == 41:
                self.assertRaises(TooGreat, split, turning, 0, ())
            else:
                self.assertEqual(self.splits(turning, 0, ()), 40)


class TestHeeded(SplitCase):
    def test_the_example(self):
        self.assertEqual(self.heeds(ADDED, 0, "cons", 0), 2)
        self.assertEqual(self.heeds(ADDED, 0, "cons", 1), 3)
        for mode, name, branch in [(0, "cons", 2), (0, "cons", -1), (0, "cons", -2), (0, "nil", 0), (0, "nil", -1),
                                   (0, "n", 0), (0, "x", 0), (0, "con", 0), (1, "n", 0), (1, "cons", 0),
                                   (0, "cons", MOST), (0, "cons", -MOST)]:
            self.assertIsNone(heeded(ADDED, mode, name, branch), (mode, name, branch))

    def test_branches_that_are_not_heeded(self):
        turning = read_turning(LIST, "*q0; q list nil : a; q list cons : b(*m0 *r1); m num n : c(d); "
                                     "r list nil : e; r list cons : *r1")
        self.assertIsNone(heeded(turning, 0, "cons", 0))
        self.assertIsNone(heeded(turning, 0, "cons", 1))
        turning = read_turning(LIST, "*q0; q list nil : a; q list cons : b(*q1)")
        self.assertIsNone(heeded(turning, 0, "cons", 0))
        self.assertEqual(self.heeds(turning, 0, "cons", 1), 3)

    def test_kept_marks(self):
        turning = read_turning(LINE, "*q0; q t l : a; q t n : b=(*m0); m t l : c=; m t n : c")
        self.assertEqual(self.heeds(turning, 0, "n", 0), 2)
        self.assertIsNone(heeded(turning, 1, "n", 0))
        # The marks at the root are the same, so one that is kept there heeds nothing.
        turning = read_turning(LINE, "*q0; q t l : a; q t n : b=")
        self.assertIsNone(heeded(turning, 0, "n", 0))

    def test_which_branch(self):
        for branch in range(4):
            turning = read_turning(FOUR, f"*q0; q t l : a; q t n : b(c(d *q{branch}) *m3); m t l : c; m t n : c")
            for other in range(-1, 5):
                if other == branch:
                    self.assertEqual(self.heeds(turning, 0, "n", other), 3)
                else:
                    self.assertIsNone(heeded(turning, 0, "n", other))

    def test_several_calls_on_the_branch(self):
        turning = read_turning(LINE, "*q0; q t l : a; q t n : b(*r0 c(*s0) *m0); r t l : a; r t n : a; "
                                     "s t l : a; s t n : d; m t l : a=; m t n : a")
        self.assertEqual(self.heeds(turning, 0, "n", 0), 2)
        self.assertEqual(heeded(turning, 0, "n", 0)[2], (2,))
        turning = read_turning(LINE, "*q0; q t l : a; q t n : b(*r0 c(*s0) *s0); r t l : a; r t n : a; "
                                     "s t l : a; s t n : d")
        self.assertEqual(self.heeds(turning, 0, "n", 0), 3)

    def test_what_is_unlike_with_fewer_levels_lies_below_what_is_unlike_with_more(self):
        turning = read_turning(LINE, "*q0; q t l : a; q t n : *p0; p t l : a(b=); p t n : *r0; r t l : a(b); r t n : d")
        self.assertEqual(self.heeds(turning, 0, "n", 0), 2)
        self.assertEqual(heeded(turning, 0, "n", 0)[2], (0,))
        self.assertEqual(self.splits(turning, 1, ()), 3)

    def test_deep_calls(self):
        turning = (LINE, call(0), [("t", [put("a"), line_term(60, call(1, 0))]),
                                   ("t", [line_term(60, put("b")), line_term(60, put("c"))])])
        self.assertEqual(self.heeds(turning, 0, "n", 0), 3)
        self.assertEqual(heeded(turning, 0, "n", 0)[2], (0,) * 118)

    def test_one_name_in_two_kinds(self):
        turning = read_turning(WOOD, "*p0; p t leaf : a; p t node : *q2; p t pair : *q0; q u leaf : b=; q u turn : b")
        self.assertIsNone(heeded(turning, 0, "leaf", 0))
        self.assertIsNone(heeded(turning, 1, "leaf", 0))
        self.assertIsNone(heeded(turning, 1, "turn", 0))
        self.assertIsNone(heeded(turning, 0, "turn", 0))
        self.assertIsNone(heeded(turning, 0, "node", 0))
        self.assertIsNone(heeded(turning, 0, "node", 1))
        self.assertEqual(self.heeds(turning, 0, "node", 2), 2)
        self.assertEqual(self.heeds(turning, 0, "pair", 0), 2)
        self.assertIsNone(heeded(turning, 0, "pair", 1))

    def test_forty_levels_are_told_and_more_refused(self):
        for many in [39, 40, 41, 200]:
            ringed = ring(many)
            # A mode ahead of the ring, that calls its first one.
            modes = ringed[2] + [("t", [put("x"), put("y", call(0, 0))]), ("t", [put("x"), put("y", put("z"))])]
            turning = (LINE, call(0), modes)
            if many > 39:
                with self.assertRaises(TooGreat) as caught:
                    heeded(turning, many, "n", 0)
                self.assertIs(type(caught.exception), TooGreat)
                self.assertEqual(self.heeds(turning, many - 40, "n", 0), 40)
            else:
                self.assertEqual(self.heeds(turning, many, "n", 0), 40)
            self.assertIsNone(heeded(turning, many, "l", 0))
            self.assertIsNone(heeded(turning, many, "n", 1))
            self.assertIsNone(heeded(turning, many + 1, "n", 0))

    def test_against_all_small_trees(self):
        chance = random.Random(23)
        needed = []
        for number in range(120):
            turning, most = grown(chance, number)
            stumps = commons(turning)
            for mode, (kind, rules) in enumerate(turning[2]):
                for (name, kinds), rule in zip(dict(turning[0])[kind], rules):
                    for branch in range(len(kinds)):
                        called = [stumps[each[1]] for each in calls_in(rule) if each[2] == branch]
                        if any(opens(stump) for stump in called):
                            told = self.heeds(turning, mode, name, branch)
                            needed.append(told)
                        else:
                            self.assertIsNone(heeded(turning, mode, name, branch))
                            told = None
                        self.least(turning, mode, name, branch, most, told)
        for many in [2, 3, 4, 5]:
            self.assertGreater(needed.count(many), 5, needed)

    def least(self, turning, mode, name, branch, most, told):
        for room in range(2, most + 1):
            rooted = [tree for tree in all_trees(turning[0], turning[2][mode][0], room, 0) if tree[0] == name]
            by_others = {}
            for tree in rooted:
                others = put_at(tree, (branch,), ("x", 0, ()))
                for changed in [tree, put_at(tree, (branch,), marked(at(tree, (branch,)), 1))]:
                    by_others.setdefault(others, set()).add(made(turning, call(mode), 0, (changed,)))
            if any(len(found) > 1 for found in by_others.values()):
                self.assertEqual(told, room)
                return
        if told is not None:
            self.assertGreater(told, most)


def marked(tree, mark):
    """The tree, all of whose marks are this one."""
    return (tree[0], mark, tuple(marked(branch, mark) for branch in tree[2]))


def calls_in(term):
    if term[0] == "call":
        return [term]
    return [each for part in term[4] for each in calls_in(part)]


class TestOwn(SplitCase):
    def test_what_is_handed_in_stays_and_what_was_told_too(self):
        turning = copy.deepcopy(TURN)
        told = [split(turning, 2, (0,)), heeded(turning, 0, "node", 0)]
        self.assertEqual(turning, TURN)
        turning[0].clear()
        turning[2].clear()
        self.assertEqual(told, [split(TURN, 2, (0,)), heeded(TURN, 0, "node", 0)])

    def test_tuples(self):
        trees = list(split(TURN, 0, ())) + list(heeded(TURN, 0, "node", 0)[:2])
        for tree in trees:
            while tree:
                self.assertEqual([type(each) for each in tree], [str, int, tuple])
                self.assertIs(type(tree), tuple)
                tree = tree[2][0] if tree[2] else None

    def test_lines(self):
        self.assertEqual(max([levels(tree) for tree in split(ring(12), 0, ())]), levels(line(12)))


if __name__ == "__main__":
    unittest.main()
