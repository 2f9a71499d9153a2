import copy
import random
import unittest

from tests.helper import (ADDED, LINE, LIST, MOST, NO_LISTS, TURN, WOOD, call, grown_tree, grown_turning, line,
                          line_term, made, put, wide_term)
from turnery.counting import many, seen, seen_in, tall
from turnery.errors import NoTree
from turnery.running import turned, turned_in
from turnery.trees import at, levels, places, size
from turnery.treetexts import read_tree
from turnery.turntexts import read_turning
from turnery.woods import read_wood

DOUBLE = read_turning(LINE, "*q0; q t l : l=; q t n : n=(*q0 *q0)")
# Numbers that lead nowhere where there are fewer than nine branches.
NOWHERE = [-1, -2, -9, -MOST, 9, 10, 200, MOST, 10 ** 400]


def seen_at(tree, place):
    """What stands at the place of a tree, as it is told of outcomes."""
    found = at(tree, place)
    return None if found is None else (found[0], found[1], len(found[2]))


class CountCase(unittest.TestCase):
    def held(self, told, ask, outcome):
        """Holds what is told at each place, and at places that lead nowhere, against the outcome's own."""
        for place in places(outcome):
            self.assertEqual(ask(place), seen_at(outcome, place), place)
            branches = len(at(outcome, place)[2])
            for number in [-1, -branches, branches, branches + 1] + NOWHERE:
                if number < 0 or number >= branches:
                    self.assertIsNone(ask(place + (number,)), place + (number,))
        self.assertEqual(told, (size(outcome), levels(outcome)))

    def held_whole(self, turning, tree, outcome):
        told = (many(turning, tree), tall(turning, tree))
        self.held(told, lambda place: seen(turning, tree, place), outcome)

    def held_in(self, turning, mode, tree, outcome):
        self.held((size(outcome), levels(outcome)), lambda place: seen_in(turning, mode, tree, place), outcome)


class TestSmall(CountCase):
    def test_the_example(self):
        tree = read_tree("cons3(n5 cons(n-1 nil))")
        self.assertEqual((many(ADDED, tree), tall(ADDED, tree)), (5, 3))
        for place, told in [((), ("cons", 0, 2)), ((0,), ("n", 6, 0)), ((1,), ("cons", 0, 2)), ((1, 0), ("n", 0, 0)),
                            ((1, 1), ("nil", 0, 0)), ((2,), None), ((-1,), None), ((0, 0), None), ((1, 1, 0), None),
                            ((1, 2), None), ((0, 0, 0), None), ((-1, 0), None), ((2, 0), None)]:
            self.assertEqual(seen(ADDED, tree, place), told, place)
            self.assertEqual(seen_in(ADDED, 0, tree, place), told, place)
        self.assertEqual(seen_in(ADDED, 1, read_tree("n7"), ()), ("n", 8, 0))
        self.assertIsNone(seen_in(ADDED, 1, read_tree("n7"), (0,)))

    def test_kinds_of_what_is_told(self):
        tree = read_tree("cons3(n5 nil)")
        for told in [many(ADDED, tree), tall(ADDED, tree)]:
            self.assertIs(type(told), int)
        for told in [seen(ADDED, tree, (0,)), seen_in(ADDED, 0, tree, (0,))]:
            self.assertIs(type(told), tuple)
            self.assertEqual([type(each) for each in told], [str, int, int])

    def test_against_what_is_turned(self):
        for text in ["leaf5", "pair(leaf6 end3)", "node(leaf1 leaf2 turn3(leaf4))",
                     "node(pair(turn(leaf2) end-5) node(leaf leaf8 leaf) turn9(pair(leaf end)))"]:
            tree = read_tree(text)
            self.held_whole(TURN, tree, turned(TURN, tree))
            for mode in [0, 3]:
                self.held_in(TURN, mode, tree, turned_in(TURN, mode, tree))
        for text in ["leaf3", "turn2(node(leaf leaf4 leaf))"]:
            self.held_in(TURN, 1, read_tree(text), turned_in(TURN, 1, read_tree(text)))
        self.held_in(TURN, 2, read_tree("end5"), ("call", 0, (("put", 2, ()),)))

    def test_no_modes(self):
        for start in [put("a"), put("a", put("b", put("c", add=4)), put("d"), add=-MOST)]:
            for text in ["nil", "cons5(n nil)"]:
                self.held_whole((LIST, start, []), read_tree(text), made((LIST, start, []), start, 0, ()))

    def test_calls_alone(self):
        turning = read_turning(LINE, "*p0; p t l : a=(b); p t n : *q0; q t l : c=; q t n : *p0")
        self.held_whole(turning, ("l", 5, ()), ("a", 5, (("b", 0, ()),)))
        self.held_whole(turning, line(2), ("c", 1, ()))
        self.held_whole(turning, line(39), ("a", 1, (("b", 0, ()),)))
        self.held_whole(turning, line(40), ("c", 1, ()))
        self.held_in(turning, 1, line(40), ("a", 1, (("b", 0, ()),)))

    def test_kept_marks_of_sixty_figures(self):
        for add in [MOST, -MOST, 0]:
            turning = (LINE, put("a", call(0), add=add), [("t", [put("l", kept=True, add=add),
                                                                 put("n", put("m", add=add), call(0, 0), kept=True)])])
            for mark in [MOST, -MOST, 0, 3]:
                tree = ("n", mark, (("l", -mark, ()),))
                self.held_whole(turning, tree, made(turning, turning[1], 0, (tree,)))
                self.assertEqual(seen(turning, tree, (0, 1)), ("l", add - mark, 0))
                self.assertEqual(seen(turning, tree, (0,)), ("n", mark, 2))
                self.assertEqual(seen(turning, tree, (0, 0)), ("m", add, 0))

    def test_grown(self):
        chance = random.Random(8)
        for number in range(200):
            wood = [LIST, WOOD, LINE][number % 3]
            turning = grown_turning(chance, wood, chance.randrange(1, 5), 3)
            tree = grown_tree(chance, wood, wood[0][0], 4)
            before = copy.deepcopy(turning)
            outcome = made(turning, turning[1], 0, (tree,))
            if size(outcome) <= 400:
                self.held_whole(turning, tree, outcome)
            self.assertEqual((many(turning, tree), tall(turning, tree)), (size(outcome), levels(outcome)))
            for mode, (kind, rules) in enumerate(turning[2]):
                tree = grown_tree(chance, wood, kind, 3)
                outcome = made(turning, call(mode), 0, (tree,))
                if size(outcome) <= 100:
                    self.held_in(turning, mode, tree, outcome)
            self.assertEqual(turning, before)

    def test_what_is_handed_in_changed_behind_the_call(self):
        turning = copy.deepcopy(ADDED)
        tree = read_tree("cons3(n5 nil)")
        first = (many(turning, tree), tall(turning, tree), seen(turning, tree, (0,)), seen_in(turning, 0, tree, (0,)))
        self.assertEqual(first, (3, 2, ("n", 6, 0), ("n", 6, 0)))
        self.assertEqual(turning, ADDED)
        turning[2][1][1][0] = put("m", put("k", put("k")))
        changed = (many(turning, tree), tall(turning, tree), seen(turning, tree, (0,)), seen_in(turning, 0, tree, (0,)))
        self.assertEqual(changed, (5, 4, ("m", 0, 1), ("m", 0, 1)))
        self.assertEqual((many(ADDED, tree), tall(ADDED, tree)), (3, 2))


class TestGreat(CountCase):
    def test_names_that_double(self):
        for deep in range(1, 41):
            self.assertEqual(many(DOUBLE, line(deep)), 2 ** deep - 1)
            self.assertEqual(tall(DOUBLE, line(deep)), deep)

    def test_places_in_what_doubles(self):
        chance = random.Random(9)
        for deep in [1, 2, 20, 39, 40]:
            for number in range(deep):
                place = tuple(chance.randrange(2) for _ in range(number))
                told = ("l", 1, 0) if number == deep - 1 else ("n", deep - number, 2)
                self.assertEqual(seen(DOUBLE, line(deep), place), told)
                self.assertEqual(seen_in(DOUBLE, 0, line(deep), place), told)
                for more in [-1, 2] + NOWHERE:
                    self.assertIsNone(seen(DOUBLE, line(deep), place + (more,)))
                    self.assertIsNone(seen(DOUBLE, line(deep), (more,) + place))
            self.assertIsNone(seen(DOUBLE, line(deep), (0,) * deep))
            self.assertIsNone(seen_in(DOUBLE, 0, line(deep), (1,) * 200))

    def test_two_modes_that_double(self):
        turning = read_turning(LINE, "x(*p0 *q0); p t l : a; p t n : b(*p0 *q0); "
                                     "q t l : c(c=); q t n : d(*q0 e(*p0 *p0))")
        counts = [(1, 1), (2, 2)]
        for deep in range(1, 41):
            self.assertEqual(many(turning, line(deep)), 1 + counts[0][0] + counts[1][0])
            self.assertEqual(tall(turning, line(deep)), 1 + max(counts[0][1], counts[1][1]))
            first, second = counts
            counts = [(1 + first[0] + second[0], 1 + max(first[1], second[1])),
                      (2 + second[0] + 2 * first[0], max(1 + second[1], 2 + first[1]))]
        self.assertEqual(seen(turning, line(40), (1, 1)), ("e", 0, 2))
        self.assertEqual(seen(turning, line(40), (1, 1, 0, 1, 1)), ("e", 0, 2))
        self.assertEqual(seen(turning, line(40), (1, 1, 0, 1, 1, 1)), ("b", 0, 2))

    def test_trees_with_four_branches(self):
        wood = read_wood("t = l | n(t t t t)")
        turning = read_turning(wood, "*q0; q t l : l=; q t n : n=(*q0 *q1 *q1 *q2 *q3 *q3)")
        tree = ("l", 1, ())
        names = 1
        for mark in range(39):
            tree = ("n", mark, (("l", 2, ()), tree, ("l", 3, ()), ("l", 4, ())))
            names = 1 + 1 + 2 * names + 1 + 2
        self.assertEqual(many(turning, tree), names)
        self.assertEqual(tall(turning, tree), 40)
        self.assertEqual(seen(turning, tree, (2, 1) * 19), ("n", 0, 6))
        self.assertEqual(seen(turning, tree, (2, 1) * 19 + (2,)), ("l", 1, 0))
        self.assertEqual(seen(turning, tree, (2, 1) * 19 + (4,)), ("l", 4, 0))
        self.assertIsNone(seen(turning, tree, (2, 1) * 20))
        self.assertIsNone(seen(turning, tree, (0, 1) * 100))

    def test_trees_and_rules_that_are_deep(self):
        for deep, room in [(6, 60), (7, 51), (9, 40), (10, 36), (18, 20), (36, 10), (40, 9), (5, 60), (1, 60), (40, 1)]:
            # Within each rule the way down is the last part but one, with another call beside its end.
            node = put("x", put("y", kept=True), call(0, 0), call(0, 0))
            for _ in range(room - 2):
                node = put("w", put("v"), node, put("u"))
            node = node if room > 1 else call(0, 0)
            turning = (LINE, call(0), [("t", [line_term(room, put("l", kept=True)), node])])
            wide, down = room, room
            for _ in range(deep - 1):
                wide = wide if room == 1 else 3 * (room - 2) + 2 + 2 * wide
                down = down if room == 1 else room - 1 + down
            self.assertEqual(many(turning, line(deep)), wide)
            self.assertEqual(tall(turning, line(deep)), down)
            if room > 1:
                way = ((1,) * (room - 2) + (2,)) * (deep - 1)
                self.assertEqual(seen(turning, line(deep), way), ("a", 0, 1))
                self.assertEqual(seen(turning, line(deep), way + (0,) * (room - 1)), ("l", 1, 0))
                self.assertIsNone(seen(turning, line(deep), way + (0,) * room))
                if deep > 1:
                    self.assertEqual(seen(turning, line(deep), (1,) * (room - 2) + (0,)), ("y", deep, 0))

    def test_the_greatest_start(self):
        turning = (LINE, line_term(60, call(0)), DOUBLE[2])
        self.assertEqual((many(turning, line(40)), tall(turning, line(40))), (59 + 2 ** 40 - 1, 99))
        self.assertEqual(seen(turning, line(40), (0,) * 59), ("n", 40, 2))
        self.assertEqual(seen(turning, line(40), (0,) * 59 + (1,) * 39), ("l", 1, 0))
        self.assertEqual(seen_in(turning, 0, line(40), (1,) * 39), ("l", 1, 0))
        wide = (LINE, wide_term(400, call(0)), DOUBLE[2])
        self.assertEqual((many(wide, line(40)), tall(wide, line(40))), (399 + 2 ** 40 - 1, 41))
        self.assertEqual(seen(wide, line(40), ()), ("a", 0, 399))
        self.assertEqual(seen(wide, line(40), (398, 0)), ("n", 39, 2))
        self.assertEqual(seen(wide, line(40), (397,)), ("b", 0, 0))
        self.assertIsNone(seen(wide, line(40), (399,)))

    def test_places_of_two_hundred_numbers(self):
        # Each of forty levels puts out five names, one below the other, the last two hundred and one.
        node = line_term(5, put("n", call(0, 0), put("m"), kept=True))
        turning = (LINE, call(0), [("t", [line_term(6, put("l", kept=True)), node])])
        self.assertEqual(tall(turning, line(40)), 201)
        self.assertEqual(seen(turning, line(40), (0,) * 200), ("l", 1, 0))
        self.assertEqual(seen(turning, line(40), (0,) * 199), ("a", 0, 1))
        self.assertEqual(seen(turning, line(40), (0,) * 194 + (1,)), ("m", 0, 0))
        self.assertEqual(seen_in(turning, 0, line(40), (0,) * 200), ("l", 1, 0))
        self.assertIsNone(seen(turning, line(39), (0,) * 200))
        for number in NOWHERE:
            self.assertIsNone(seen(turning, line(40), (0,) * 199 + (number,)))
            self.assertIsNone(seen_in(turning, 0, line(40), (number,) + (0,) * 199))

    def test_two_hundred_modes(self):
        modes = [("t", [put("l", kept=True, add=number),
                        put("n", call((number + 1) % 200, 0), call((number * 3) % 200, 0))]) for number in range(200)]
        turning = (LINE, call(150), modes)
        self.assertEqual((many(turning, line(40)), tall(turning, line(40))), (2 ** 40 - 1, 40))
        self.assertEqual(seen(turning, line(40), (0,) * 39), ("l", 1 + 189, 0))
        self.assertEqual(seen_in(turning, 190, line(40), (0,) * 39), ("l", 1 + 29, 0))


class TestNoTree(unittest.TestCase):
    def refuses(self, turning, mode, tree):
        for ask in [lambda: many(turning, tree), lambda: tall(turning, tree)]:
            self.assertRaises(NoTree, ask)
        for place in [(), (0,), (1, 0), (-1,), (9,), (0,) * 200, (MOST,)]:
            for ask in [lambda: seen(turning, tree, place), lambda: seen_in(turning, mode, tree, place)]:
                with self.assertRaises(NoTree) as caught:
                    ask()
                self.assertIs(type(caught.exception), NoTree)

    def test_each_fault(self):
        for text in NO_LISTS:
            for each in [text, "cons(n cons(n cons(n cons(n " + text + "))))", "cons(n " + text + ")"]:
                self.refuses(ADDED, 0, read_tree(each))

    def test_the_kind_of_the_mode_counts(self):
        for text in ["nil", "cons(n nil)", "num", "n(n)", "x"]:
            for place in [(), (0,), (-1,)]:
                self.assertRaises(NoTree, seen_in, ADDED, 1, read_tree(text), place)
        self.assertEqual(seen(TURN, read_tree("leaf"), ()), ("top", 7, 2))
        self.assertRaises(NoTree, seen, TURN, read_tree("turn(leaf)"), ())
        self.assertEqual(seen_in(TURN, 1, read_tree("turn(leaf)"), ()), ("b", 0, 2))
        self.assertRaises(NoTree, seen_in, TURN, 0, read_tree("turn(leaf)"), ())
        self.assertRaises(NoTree, seen_in, TURN, 1, read_tree("end"), ())

    def test_the_first_kind_of_the_wood_counts(self):
        wood = read_wood("num = n; list = nil | cons(num list)")
        turning = read_turning(wood, "*m0; m num n : n=1; q list nil : nil; q list cons : cons(*m0 *q1)")
        self.assertEqual((many(turning, read_tree("n")), tall(turning, read_tree("n"))), (1, 1))
        self.refuses(turning, 0, read_tree("nil"))
        self.assertEqual(seen_in(turning, 1, read_tree("cons(n nil)"), (0,)), ("n", 1, 0))

    def test_branches_that_no_rule_reads(self):
        turning = read_turning(LIST, "a; q list nil : b; q list cons : b")
        for text in ["cons(nil nil)", "cons(n cons(n n))", "x", "n"]:
            self.refuses(turning, 0, read_tree(text))

    def test_where_the_outcome_would_be_too_great(self):
        for tree in [line(40, end="x"), line(40, name="x"), ("l", 0, (line(39),)), line(40, end="n")]:
            self.refuses(DOUBLE, 0, tree)


if __name__ == "__main__":
    unittest.main()
