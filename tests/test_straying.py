import random
import unittest

from tests.helper import (ABC, ADDED, LINE, LIST, MOST, SHARED, THREE, TURN, WOOD, all_trees, asked_twice, call, line,
                          line_term, made, odd_at_the_end, one_odd, put, refuses, ring, turning_into)
from turnery.counting import seen, tall
from turnery.errors import TooGreat
from turnery.straying import strays
from turnery.trees import levels
from turnery.turntexts import read_turning
from turnery.woods import is_of, read_wood

TWO = read_wood("t = l | n(t t)")


def row_for(wood, kind, head):
    """The kinds wanted below what is seen, where it is right."""
    kinds = dict(dict(wood)[kind]).get(head[0])
    return kinds if kinds is not None and len(kinds) == head[2] else None


class StrayCase(unittest.TestCase):
    def strayed(self, turning, wood, many=None):
        """The number of levels of the tree that is told, which is looked at, and its place with it."""
        told = asked_twice(self, strays, turning, wood)
        self.assertEqual((type(told), len(told)), (tuple, 2))
        tree, place = told
        self.assertTrue(is_of(turning[0], turning[0][0][0], tree))
        self.assertIs(type(place), tuple)
        kind = wood[0][0]
        for gone, number in enumerate(place):
            kinds = row_for(wood, kind, seen(turning, tree, place[:gone]))
            self.assertIsNotNone(kinds)
            kind = kinds[number]
        self.assertIsNone(row_for(wood, kind, seen(turning, tree, place)))
        if many is not None:
            self.assertEqual(levels(tree), many)
        return levels(tree)

    def fits(self, turning, wood):
        self.assertIsNone(asked_twice(self, strays, turning, wood))

    def texts(self, wood, other, *pairs):
        """Pairs of a turning's text and the levels that are needed, or None."""
        for text, many in pairs:
            turning = read_turning(read_wood(wood), text)
            if many is None:
                self.fits(turning, read_wood(other))
            else:
                self.strayed(turning, read_wood(other), many)


class TestSmall(StrayCase):
    def test_the_example(self):
        self.fits(ADDED, LIST)
        self.assertEqual(strays(ADDED, read_wood("list = nil | cons(num list); num = m")),
                         (("cons", 0, (("n", 0, ()), ("nil", 0, ()))), (0,)))

    def test_outcomes_that_are_all_right(self):
        self.texts("t = l | n(t)", "t = a | b(t t)", ("a", None), ("b(a b(a a))", None), ("a5", None),
                   ("*q0; q t l : a; q t n : b(*q0 *q0)", None), ("b(*q0 a); q t l : a=; q t n : *q0", None),
                   ("*q0; q t l : b=1(a a); q t n : *r0; r t l : a; r t n : b(*q0 *r0)", None))
        for turning in [ring(200), ring(41), ring(3, put("a", kept=True, add=MOST))]:
            self.fits(turning, read_wood("t = a | b"))

    def test_its_own_wood(self):
        self.texts("t = l | n(t)", "t = l | n(t)", ("*q0; q t l : l=; q t n : n=(*q0)", None),
                   ("*q0; q t l : n(l); q t n : n(n(*q0))", None), ("*q0; q t l : l; q t n : n", 2),
                   ("*q0; q t l : n; q t n : n(*q0)", 1), ("m", 1))
        self.strayed(TURN, WOOD, 1)
        self.strayed(TURN, LIST, 1)

    def test_at_the_root(self):
        self.texts("t = l | n(t)", "t = a | b(t t)", ("c", 1), ("a(a)", 1), ("b", 1), ("b(a)", 1), ("b(a a a)", 1),
                   ("*q0; q t l : c; q t n : a", 1), ("*q0; q t l : a; q t n : c", 2),
                   ("*q0; q t l : a; q t n : a(a)", 2), ("*q0; q t l : a; q t n : b(*q0)", 2))
        for turning in ["c", "b(a(x))", "*q0; q t l : c(c(x)); q t n : a"]:
            self.assertEqual(strays(read_turning(LINE, turning), read_wood("t = a | b(t t)"))[1], ())

    def test_by_a_branch(self):
        wood = "t = a | b(t u); u = c | d(t)"
        self.texts("t = l | n(t)", wood, ("b(a c)", None), ("b(a d(a))", None), ("b(a a)", 1), ("b(c c)", 1), ("c", 1),
                   ("b(a d(c))", 1), ("b(b(a c) d(b(a d(a))))", None), ("b(b(a c) d(b(a d(c))))", 1),
                   ("*q0; q t l : a; q t n : b(*q0 *q0)", 2), ("*q0; q t l : a; q t n : b(*q0 d(*q0))", None),
                   ("*q0; q t l : a; q t n : b(*r0 c); r t l : a; r t n : c", 3),
                   ("*q0; q t l : a; q t n : b(a *r0); r t l : a; r t n : c", 2))

    def test_a_name_that_stands_in_several_kinds(self):
        # In t it has one branch, in u none.
        wood = "t = a | b(u); u = b | a(t)"
        self.texts("t = l | n(t)", wood, ("b(b)", None), ("b", 1), ("b(a(b(b)))", None), ("b(a(b))", 1), ("b(a)", 1),
                   ("*q0; q t l : b(b); q t n : b(a(*q0))", None), ("*q0; q t l : b(b); q t n : b(*q0)", 2),
                   ("b(*q0); q t l : b; q t n : a(b(*q0))", None), ("*q0; q t l : a; q t n : b(*q0)", 2))

    def test_a_mode_that_is_right_for_one_kind_alone(self):
        wood = "t = a | b(t u); u = a | c"
        self.texts("t = l | n(t)", wood, ("b(*q0 a); q t l : a; q t n : b(*q0 c)", None),
                   ("b(a *q0); q t l : a; q t n : b(*q0 c)", 2), ("b(*q0 *q0); q t l : a; q t n : b(*q0 c)", 2),
                   ("b(*q0 *q0); q t l : a; q t n : *q0", None),
                   ("*r0; q t l : a; q t n : c; r t l : b(a c); r t n : b(*r0 *q0)", None),
                   ("*r0; q t l : a; q t n : c; r t l : b(a c); r t n : b(*q0 *q0)", 3))

    def test_marks_do_not_matter(self):
        self.texts("t = l | n(t)", "t = a | b(t)", ("a7", None), ("*q0; q t l : a=-5; q t n : b=1(*q0)", None),
                   ("*q0; q t l : a=; q t n : c=", 2))

    def test_modes_that_are_not_reached(self):
        self.texts("t = l | n(t)", "t = a", ("a; q t l : x; q t n : *q0", None),
                   ("*p0; p t l : a; p t n : *p0; q t l : x; q t n : *p0", None))

    def test_parts_of_what_is_wrong(self):
        """What lies below a wrong name is looked at no further, and a row is told that is wrong soonest."""
        self.texts("t = l | n(t)", "t = a | b(t)", ("*q0; q t l : a; q t n : x(*q0)", 2),
                   ("*q0; q t l : a; q t n : a(x)", 2))
        turning = read_turning(LINE, "*q0; q t l : a; q t n : b(x(*q0 y))")
        self.assertEqual(strays(turning, read_wood("t = a | b(t)")), (("n", 0, (("l", 0, ()),)), (0,)))

    def test_branches_of_other_kinds(self):
        self.texts("list = nil | cons(num list); num = n | m", "t = a | b(t)",
                   ("*q0; q list nil : a; q list cons : b(*r0); r num n : a; r num m : a", None),
                   ("*q0; q list nil : a; q list cons : b(*r0); r num n : a; r num m : b", 2),
                   ("*q0; q list nil : a; q list cons : *p1; p list nil : a; p list cons : *r0; "
                    "r num n : c; r num m : a", 3))

    def test_the_fewest_levels(self):
        # A row with branches, whose own rule is wrong, takes a level more than one without.
        self.texts("t = l | n(t)", "t = a | b(t)", ("*q0; q t l : a; q t n : *r0; r t l : x; r t n : a", 2),
                   ("*q0; q t l : a; q t n : *r0; r t l : a; r t n : x", 3))
        self.texts("t = l | n(t t)", "t = a | b(t t)",
                   ("b(*q0 *r0); q t l : a; q t n : x; r t l : x; r t n : a", 1),
                   ("*p0; p t l : a; p t n : b(*q0 *r1); q t l : a; q t n : x; r t l : x; r t n : a", 2),
                   ("*p0; p t l : a; p t n : b(*q0 *r1); q t l : a; q t n : x; "
                    "r t l : a; r t n : *s1; s t l : x; s t n : a", 3))


class TestFar(StrayCase):
    def test_far_down(self):
        for deep in [1, 2, 9, 38, 39]:
            modes = [("t", [put("a"), put("b", call(mode + 1, 0))]) for mode in range(deep)]
            turning = (LINE, call(0), modes + [("t", [put("c"), put("b", call(deep, 0))])])
            self.strayed(turning, read_wood("t = a | b(t)"), deep + 1)
            self.assertEqual(strays(turning, read_wood("t = a | b(t)"))[1], (0,) * deep)

    def test_down_one_of_two_branches(self):
        chance = random.Random(70)
        for deep in [1, 5, 39]:
            way = [chance.randrange(2) for _ in range(deep)]
            modes = [("t", [put("l"), put("n", call(mode + 1, down), call(0, 1 - down))])
                     for mode, down in enumerate(way)]
            turning = (TWO, call(0), modes + [("t", [put("x"), put("l")])])
            self.strayed(turning, TWO, deep + 1)

    def test_rings(self):
        for length in [1, 2, 3, 17, 39, 40]:
            self.strayed(ring(length), read_wood("t = a | c"), length)
            self.strayed(ring(length, put("a", put("a")), put("a", put("b"))), read_wood("t = a(u) | b; u = a"), length)
        for length in [41, 42, 80, 200]:
            refuses(self, TooGreat, strays, ring(length), read_wood("t = a | c"))
            self.fits(ring(length), read_wood("t = a | b"))

    def test_rows_with_branches_at_forty_and_more(self):
        for many in [1, 2, 38, 39]:
            self.strayed(odd_at_the_end(many), read_wood("t = a"), many + 1)
        for many in [40, 41, 200]:
            refuses(self, TooGreat, strays, odd_at_the_end(many), read_wood("t = a"))

    def test_forty_by_a_leaf_where_another_row_needs_more(self):
        modes = [("t", [put("a"), call(mode + 1, 0)]) for mode in range(39)]
        wood = read_wood("t = a")
        self.strayed((LINE, call(0), modes + [("t", [put("x"), put("x")])]), wood, 40)
        refuses(self, TooGreat, strays, (LINE, call(0), modes + [("t", [put("a"), put("x")])]), wood)

    def test_only_by_a_ring_of_modes_and_kinds(self):
        # Only the last mode's leaf is wrong, and only where the last kind is wanted: that takes both rings round.
        def wood(many):
            names = ["k" + "abcdefgh"[number] for number in range(many)]
            rows = [f"{name} = a | b({after})" for name, after in zip(names, names[1:] + names[:1])]
            return read_wood("; ".join(rows[:-1] + [rows[-1].replace("= a", "= c")]))

        def turning(many):
            ends = [put("a")] * (many - 1) + [put("c")]
            return (LINE, call(0), [("t", [end, put("b", call((mode + 1) % many, 0))])
                                    for mode, end in enumerate(ends)])

        for modes, kinds in [(2, 3), (3, 2), (5, 3), (4, 6)]:
            self.strayed(turning(modes), wood(kinds), min(modes, kinds))
        for modes, kinds in [(3, 3), (6, 6)]:
            self.fits(turning(modes), wood(kinds))
        # Modes that are gone round in a ring of four, kinds in one of five: the first unlike pair comes late.
        four = (LINE, call(0), [("t", [put("a") if mode else put("e"), put("b", call((mode + 1) % 4, 0))])
                                for mode in range(4)])
        five = read_wood("ka = a | e | b(kb); kb = a | e | b(kc); kc = a | e | b(kd); "
                         "kd = a | e | b(ke); ke = a | b(ka)")
        self.strayed(four, five, 5)
        three = read_wood("ka = a | e | b(kb); kb = a | e | b(kc); kc = a | b(ka)")
        self.strayed(four, three, 9)

    def test_long_places(self):
        turning = (LINE, call(0), [("t", [put("l"), line_term(60, call(mode + 1, 0))]) for mode in range(39)]
                   + [("t", [put("x"), put("l")])])
        tree, place = strays(turning, read_wood("t = l | a(t)"))
        self.assertEqual((levels(tree), place), (40, (0,) * 59 * 39))

    def test_a_great_outcome(self):
        modes = [("t", [put("l"), put("n", call(mode + 1, 0), call(mode + 1, 0))]) for mode in range(39)]
        turning = (LINE, call(0), modes + [("t", [put("x"), put("l")])])
        self.strayed(turning, TWO, 40)
        self.assertEqual(tall(turning, line(40)), 40)

    def test_many_modes_and_kinds(self):
        """Two hundred modes in a ring, of which all six kinds are wanted, with deep rules."""
        kinds = ["k" + each for each in "abcdef"]
        wood = "; ".join(f"{kind} = l | a({after})" for kind, after in zip(kinds, kinds[1:] + kinds[:1]))
        turning = ring(199, put("l"), put("l"), lambda mode, branch: line_term(60, call(mode, branch)))
        self.fits(turning, read_wood(wood))
        turning = ring(199, put("l"), put("x"), lambda mode, branch: line_term(60, call(mode, branch)))
        refuses(self, TooGreat, strays, turning, read_wood(wood))
        self.strayed((LINE, call(160), turning[2]), read_wood(wood), 39)


class TestAgainstAllTrees(StrayCase):
    def against(self, turning, wood, room):
        """The number of levels that are needed, or None, which all trees of at most so many are held against."""
        told = strays(turning, wood)
        many = None if told is None else self.strayed(turning, wood)
        for tree in all_trees(turning[0], turning[0][0][0], room, 0):
            if not is_of(wood, wood[0][0], made(turning, turning[1], 0, (tree,))):
                self.assertIsNotNone(many)
                self.assertGreaterEqual(levels(tree), many)
        return many

    def test_grown(self):
        chance = random.Random(71)
        found = []
        woods = [(ABC, 3), (SHARED, 3), (THREE, 2), (LINE, 7), (LIST, 5), (TWO, 4)]
        for number in range(1200):
            wood, room = woods[number % 6]
            other = woods[number // 6 % 6][0]
            turning = turning_into(chance, wood, other, chance.randrange(1, 9), 3, 0.05 if number % 5 == 0 else 0)
            if number % 4:
                turning = one_odd(chance, turning)
            found.append(self.against(turning, other, room))
        for many, least_often in [(None, 300), (1, 100), (2, 100), (3, 40), (4, 10), (5, 1)]:
            self.assertGreater(found.count(many), least_often, many)

    def test_woods_that_outcomes_are_not_for(self):
        chance = random.Random(72)
        found = []
        for number in range(200):
            wood, other = [ABC, SHARED, THREE][number % 3], [SHARED, ABC, LINE][number // 3 % 3]
            turning = turning_into(chance, LIST, wood, chance.randrange(1, 6), 2)
            found.append(self.against(turning, other, 5))
        for many, least_often in [(None, 50), (1, 20), (2, 5)]:
            self.assertGreater(found.count(many), least_often, many)


if __name__ == "__main__":
    unittest.main()
