"""What is promised over the whole program: what is there, and that nothing handed in or told hangs together."""

import copy
import importlib
import inspect
import random
import unittest

from tests.helper import (ABC, ADDED, LINE, LIST, MOST, SHARED, TURN, WOOD, all_trees, call, grown_tree, line,
                          line_term, made, put, refuses, ring, spoil, turning_into, wide_term)
from turnery.behind import behind
from turnery.counting import many, seen
from turnery.desk import Desk
from turnery.errors import Strays, TooGreat
from turnery.early import early
from turnery.least import least, stand
from turnery.papers import is_paper
from turnery.parting import held
from turnery.running import turned
from turnery.sources import handed_on, source, wanted
from turnery.straying import strays
from turnery.trees import levels
from turnery.treetexts import read_tree, show_tree
from turnery.turnings import is_sound
from turnery.turntexts import read_turning, show_turning
from turnery.woods import is_of, read_wood, show_wood

TREE = read_tree("cons3(n5 cons(n-1 nil))")
LATE = read_turning(LINE, "z(*q0 *r0); q t l : a(b c); q t n : a(b= *q0); r t l : a(b c); r t n : a(b= *r0)")
ODD = read_turning(LINE, "z(*q0 *r0); q t l : a(b c); q t n : a(b= *q0); r t l : a(b c); r t n : a(b *r0)")
OPEN = ("open",)
STUMP = ("put", "a", 5, (OPEN, ("put", "b", 0, ())))
# Each function of the interface by its module, with its arguments' names and one thing that may be handed in for each.
INTERFACE = [
    ("trees", "size", {"tree": TREE}),
    ("trees", "levels", {"tree": TREE}),
    ("trees", "places", {"tree": TREE}),
    ("trees", "at", {"tree": TREE, "place": (1, 0)}),
    ("trees", "put_at", {"tree": TREE, "place": (1, 0), "other": TREE}),
    ("words", "words", {"text": "a-5=3 ( b"}),
    ("treetexts", "read_tree", {"text": "a5(b c-3(d) b0)"}),
    ("treetexts", "show_tree", {"tree": TREE}),
    ("woods", "read_wood", {"text": "list = nil | cons(num list); num = n"}),
    ("woods", "show_wood", {"wood": LIST}),
    ("woods", "row_of", {"wood": LIST, "kind": "list", "name": "cons"}),
    ("woods", "is_of", {"wood": LIST, "kind": "list", "tree": TREE}),
    ("woods", "leaf_of", {"wood": LIST, "kind": "list"}),
    ("terms", "term_size", {"term": ADDED[2][0][1][0]}),
    ("terms", "calls_of", {"term": ADDED[2][0][1][0]}),
    ("terms", "terms_in", {"term": ADDED[2][0][1][0], "terms": [put("a", call(3)), call(2, 5)]}),
    ("terms", "rules_in", {"term": ADDED[2][0][1][0], "terms": [put("a", call(3)), call(2, 5)]}),
    ("turnings", "rule_of", {"turning": ADDED, "mode": 0, "name": "cons"}),
    ("turnings", "is_sound", {"wood": LIST, "start": ADDED[1], "modes": ADDED[2]}),
    ("turntexts", "read_turning", {"wood": LINE, "text": "*q0; q t l : a; q t n : b(*q0)"}),
    ("turntexts", "show_turning", {"turning": TURN}),
    ("running", "reached", {"turning": TURN}),
    ("running", "turned", {"turning": ADDED, "tree": TREE}),
    ("running", "turned_in", {"turning": ADDED, "mode": 0, "tree": TREE}),
    ("counting", "many", {"turning": ADDED, "tree": TREE}),
    ("counting", "tall", {"turning": ADDED, "tree": TREE}),
    ("counting", "seen", {"turning": ADDED, "tree": TREE, "place": (0,)}),
    ("counting", "seen_in", {"turning": ADDED, "mode": 0, "tree": TREE, "place": (0,)}),
    ("stumps", "stump_of", {"tree": TREE}),
    ("stumps", "begins", {"stump": STUMP, "tree": read_tree("a5(c b)")}),
    ("stumps", "opens", {"stump": STUMP}),
    ("stumps", "met", {"one": STUMP, "other": ("put", "a", 5, (OPEN, OPEN))}),
    ("commons", "commons", {"turning": LATE}),
    ("commons", "commons_within", {"turning": LATE, "many": 1}),
    ("splits", "split", {"turning": LATE, "mode": 0, "place": (1,)}),
    ("splits", "heeded", {"turning": LATE, "mode": 0, "name": "n", "branch": 0}),
    ("early", "early", {"turning": LATE}),
    ("least", "least", {"turning": LATE}),
    ("least", "stand", {"turning": LATE}),
    ("papers", "is_paper", {"one": LATE, "terms": stand(LATE), "other": least(LATE)}),
    ("parting", "held", {"one": LATE, "other": LATE}),
    ("straying", "strays", {"turning": ADDED, "wood": LIST}),
    ("behind", "behind", {"one": ADDED, "other": ADDED}),
    ("sources", "wanted", {"turning": ADDED, "tree": TREE}),
    ("sources", "handed_on", {"turning": ADDED, "want": ("list", [(0, read_tree("cons(n6 nil)"))]), "name": "cons"}),
    ("sources", "source", {"turning": ADDED, "tree": read_tree("cons(n6 x)")}),
]
# More ways of some of these functions.
MORE = [
    ("parting", "held", {"one": LATE, "other": ODD}),
    ("straying", "strays", {"turning": TURN, "wood": LIST}),
    ("behind", "behind", {"one": ADDED, "other": read_turning(LIST, "a; q num n : n")}),
    ("sources", "source", {"turning": ADDED, "tree": read_tree("cons(n6 nil)")}),
    ("sources", "handed_on", {"turning": ADDED, "want": ("list", []), "name": "cons"}),
    ("commons", "commons_within", {"turning": TURN, "many": 3}),
    ("early", "early", {"turning": ADDED}),
    ("least", "least", {"turning": ADDED}),
    ("least", "stand", {"turning": ADDED}),
    ("turntexts", "read_turning", {"wood": LIST, "text": "a"}),
]


def function_of(module, name):
    return getattr(importlib.import_module("turnery." + module), name)


class TestInterface(unittest.TestCase):
    def test_everything_is_there(self):
        for module, name, handed in INTERFACE:
            function = function_of(module, name)
            self.assertEqual(list(inspect.signature(function).parameters), list(handed), (module, name))
            self.assertEqual(function.__name__, name)
            self.assertEqual(function(**handed), function(*handed.values()))

    def test_the_desk(self):
        self.assertEqual(list(inspect.signature(Desk).parameters), [])
        self.assertEqual(list(inspect.signature(Desk().say).parameters), ["row"])
        self.assertEqual(Desk().say(row="wood w t = l"), "ok")


class TestNothingHangsTogether(unittest.TestCase):
    def test_what_is_handed_in_and_what_is_told(self):
        for module, name, things in INTERFACE + MORE:
            function = function_of(module, name)
            before = copy.deepcopy(things)
            handed = copy.deepcopy(things)
            told = function(**handed)
            self.assertEqual(handed, before, (module, name))
            kept = copy.deepcopy(told)
            self.assertEqual(function(**handed), kept, (module, name))
            spoil(told)
            self.assertEqual(handed, before, (module, name))
            again = function(**handed)
            self.assertEqual(again, kept, (module, name))
            for thing in handed.values():
                spoil(thing)
            self.assertEqual(again, kept, (module, name))
            self.assertEqual(function(**things), kept, (module, name))
            self.assertEqual(things, before, (module, name))

    def test_all_answers_spoilt(self):
        """What is told by one function, spoilt, changes no answer of another one on the very same things."""
        things = copy.deepcopy([handed for module, name, handed in INTERFACE + MORE])

        def answers():
            return [function_of(module, name)(**handed) for (module, name, kinds), handed in
                    zip(INTERFACE + MORE, things)]

        first = answers()
        kept = copy.deepcopy(first)
        for told in first:
            spoil(told)
        self.assertEqual(answers(), kept)
        for _ in range(2):
            for told in answers():
                spoil(told)
        self.assertEqual(answers(), kept)

    def test_lists_within_one_answer(self):
        """No list stands twice in what is told."""
        for module, name, things in INTERFACE + MORE:
            found = lists_in(function_of(module, name)(**copy.deepcopy(things)))
            self.assertEqual(len({id(each) for each in found}), len(found), (module, name))

    def test_no_answer_is_what_was_handed_in(self):
        for module, name, things in INTERFACE + MORE:
            handed = copy.deepcopy(things)
            told = lists_in(function_of(module, name)(**handed))
            mine = {id(each) for each in lists_in(tuple(handed.values()))}
            self.assertFalse(mine & {id(each) for each in told}, (module, name))


def lists_in(thing):
    if not isinstance(thing, (list, tuple)):
        return []
    return sum([lists_in(each) for each in thing], [thing] if isinstance(thing, list) else [])


class TestTogether(unittest.TestCase):
    """The promise of the whole, by what one function tells being handed in to the next."""

    def test_what_is_told_is_handed_on(self):
        chance = random.Random(90)
        for number in range(40):
            wood = [ABC, SHARED, LIST, LINE][number % 4]
            one = turning_into(chance, wood, SHARED, chance.randrange(1, 5), 2)
            other = turning_into(chance, SHARED, ABC, chance.randrange(1, 5), 2)
            both = behind(early(one), least(other))
            self.assertTrue(is_sound(*both))
            self.assertEqual(held(both, behind(one, other))[:2], ("same", least(both)))
            self.assertTrue(is_paper(both, stand(both), least(both)))
            self.assertIsNone(strays(both, ABC))
            for tree in all_trees(wood, wood[0][0], 3, 2)[:20] + [grown_tree(chance, wood, wood[0][0], 4)]:
                between = turned(one, tree)
                outcome = turned(other, between)
                for turning in [both, least(both), early(both)]:
                    self.assertEqual(turned(turning, tree), outcome)
                self.comes_from(both, outcome, tree)
                self.comes_from(least(both), outcome, tree)

    def comes_from(self, turning, outcome, tree):
        told = source(turning, outcome)
        self.assertEqual(told[0], "from")
        self.assertEqual(turned(turning, told[1]), outcome)
        self.assertLessEqual(levels(told[1]), levels(tree))

    def test_wants_that_are_told_are_handed_in(self):
        turning = read_turning(LINE, "z(*p0 *q0); p t l : a=; p t n : b(*p0 *p0); q t l : c; q t n : *q0")
        tree = turned(turning, line(5))
        want = wanted(turning, tree)
        for deep in range(5, 1, -1):
            self.assertEqual([mode for mode, each in want[1]], [0, 1])
            for mode, each in want[1]:
                self.assertEqual(each, made(turning, call(mode), 0, (line(deep),)))
            self.assertIsNone(handed_on(turning, want, "l"))
            want = handed_on(turning, want, "n")[0]
        self.assertEqual(handed_on(turning, want, "l"), [])
        none = source(turning, ("z", 0, (tree[2][0], ("d", 0, ()))))
        for each in none[1]:
            for name in ["l", "n"]:
                told = handed_on(turning, each, name)
                self.assertTrue(told is None or any(below in none[1] for below in told))

    def test_texts_that_are_shown_are_read(self):
        wood = read_wood(show_wood(WOOD))
        for turning in [TURN, least(TURN), early(TURN), behind(read_turning(WOOD, SAME), TURN)]:
            self.assertEqual(read_turning(wood, show_turning(turning)), turning)
        self.assertEqual(read_tree(show_tree(TREE)), TREE)


SAME_LINE = "*q0; q t l : l=; q t n : n=(*q0)"
SAME = "; ".join(["*a0", "a t leaf : leaf=", "a t node : node=(*a0 *a1 *b2)", "a t pair : pair=(*b0 *c1)",
                  "b u leaf : leaf=", "b u turn : turn=(*a0)", "c v end : end="])


class TestTheGreatest(unittest.TestCase):
    """What is as great as may be handed in, told by no function of this program."""

    def ring(self, term):
        """Two hundred modes in a ring, whose rules for n are a term made of the next mode."""
        return (LINE, call(0), [("t", [put("l", kept=True), term(call((mode + 1) % 200, 0))]) for mode in range(200)])

    def test_two_hundred_modes(self):
        wide = self.ring(lambda end: wide_term(400, end))
        deep = self.ring(lambda end: line_term(60, end))
        for turning in [wide, deep]:
            self.assertTrue(is_sound(*turning))
            before = copy.deepcopy(turning)
            tree, place = strays(turning, LINE)
            self.assertEqual((levels(tree), place), (2, ()))
            refuses(self, Strays, behind, turning, read_turning(LINE, SAME_LINE))
            self.assertEqual(source(turning, ("l", MOST, ())), ("from", ("l", MOST, ())))
            self.assertEqual(source(turning, ("a", 0, ()))[1], [("t", [(0, ("a", 0, ()))])])
            self.assertEqual(turning, before)
        self.assertIsNone(strays(deep, read_wood("t = l | a(t)")))
        self.assertEqual(behind(deep, read_turning(read_wood("t = l | a(t)"), "b")), (LINE, put("b"), []))
        refuses(self, TooGreat, behind, deep, read_turning(read_wood("t = l | a(t)"), SAME_LINE.replace("n", "a")))
        outcome = ("l", 7, ())
        for _ in range(59):
            outcome = ("a", 0, (outcome,))
        self.assertEqual(source(deep, outcome), ("from", ("n", 0, (("l", 7, ()),))))

    def test_great_trees(self):
        tree = line(40)
        self.assertEqual(len(wanted(ring(200), tree)[1]), 1)
        same = read_turning(LINE, SAME_LINE)
        self.assertEqual(source(same, tree), ("from", tree))
        wood = read_wood("t = l | n(t t t t)")
        wide = read_turning(wood, "*q0; q t l : l=; q t n : n=(*q3 *q2 *q1 *q0)")
        tree = ("l", MOST, ())
        for mark in range(14):
            tree = ("n", mark, (("l", -MOST, ()), tree, ("l", 0, ()), ("l", mark, ())))
        self.assertTrue(is_of(wood, "t", tree))
        self.assertEqual(source(wide, turned(wide, tree)), ("from", tree))
        self.assertEqual(many(behind(wide, wide), tree), 57)
        self.assertEqual(seen(behind(wide, wide), tree, (1,) * 14), ("l", MOST, 0))
        rule = put("n", *[call(0, number) for number in range(4)], kept=True)
        self.assertEqual(least(behind(wide, wide))[2], [("t", [put("l", kept=True), rule])])


if __name__ == "__main__":
    unittest.main()
