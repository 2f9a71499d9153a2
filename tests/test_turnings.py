import copy
import unittest

from tests.helper import call, put
from turnery.turnings import is_sound, rule_of
from turnery.woods import read_wood

GREAT = 10 ** 59
LIST = read_wood("list = nil | cons(num list); num = n")
# Adds one to each number of a list: the rows of list are cons and nil, in this order.
ADDED = (LIST, call(0), [("list", [put("cons", call(1, 0), call(0, 1)), put("nil")]),
                         ("num", [put("n", kept=True, add=1)])])
# Rows, in their order: of t, leaf, node, pair; of u, leaf, turn; of v, end. The name leaf is in two kinds.
WOOD = read_wood("t = pair(u v) | node(t t u) | leaf; u = leaf | turn(t); v = end")
RULES = [
    ("u", [put("a", kept=True), put("b", put("c", call(1, 0), kept=True), call(3, 0))]),
    ("t", [put("d", add=-4), put("e", call(1, 0), call(3, 1), put("f", call(0, 2), call(2, 2))), call(4, 1)]),
    ("u", [put("g", kept=True, add=GREAT), call(3, 0)]),
    ("t", [put("h"), call(3, 1), put("i", put("j", put("k", call(0, 0))), call(4, 1))]),
    ("v", [put("call", put("put"))]),
]
START = put("top", call(1), put("in", call(3), call(1)), add=7)


def with_rule(mode, number, rule):
    """The modes of RULES with another rule."""
    modes = copy.deepcopy(RULES)
    modes[mode][1][number] = rule
    return modes


def deep(term, many=58):
    for number in range(many):
        term = put("deep", put("a"), term, kept=number % 2 == 0)
    return term


class TestRuleOf(unittest.TestCase):
    def test_each_mode_and_row(self):
        for turning in [ADDED, (WOOD, START, RULES)]:
            rows = dict(turning[0])
            for mode, (kind, rules) in enumerate(turning[2]):
                for row, rule in zip(rows[kind], rules):
                    self.assertEqual(rule_of(turning, mode, row[0]), rule)

    def test_the_example(self):
        self.assertEqual(rule_of(ADDED, 0, "nil"), put("nil"))
        self.assertEqual(rule_of(ADDED, 0, "cons"), put("cons", call(1, 0), call(0, 1)))
        self.assertEqual(rule_of(ADDED, 1, "n"), put("n", kept=True, add=1))

    def test_the_mode_counts(self):
        turning = (WOOD, START, RULES)
        told = [rule_of(turning, mode, "leaf") for mode in range(5)]
        self.assertEqual(told, [put("a", kept=True), put("d", add=-4), put("g", kept=True, add=GREAT), put("h"), None])

    def test_no_such_row(self):
        for mode, name in [(0, "n"), (0, "list"), (0, "x"), (0, "con"), (1, "nil"), (1, "cons"), (1, "num")]:
            self.assertIsNone(rule_of(ADDED, mode, name))
        turning = (WOOD, START, RULES)
        for mode, name in [(0, "pair"), (0, "node"), (1, "turn"), (1, "end"), (2, "node"), (4, "leaf"), (4, "v")]:
            self.assertIsNone(rule_of(turning, mode, name))

    def test_what_is_handed_in_stays(self):
        turning = (WOOD, START, RULES)
        before = copy.deepcopy(turning)
        for mode in range(5):
            for name in ["leaf", "pair", "turn", "end", "x"]:
                self.assertEqual(rule_of(turning, mode, name), rule_of(turning, mode, name))
        self.assertEqual(turning, before)


class SoundCase(unittest.TestCase):
    def check(self, told, wood, start, modes):
        before = copy.deepcopy((wood, start, modes))
        self.assertIs(is_sound(wood, start, modes), told, (start, modes))
        self.assertIs(is_sound(wood, start, modes), told, (start, modes))
        self.assertEqual((wood, start, modes), before)


class TestSound(SoundCase):
    def test_no_modes(self):
        for start in [put("a"), put("a", put("b", add=5), put("call")), put("a", add=-GREAT)]:
            self.check(True, LIST, start, [])
            self.check(True, WOOD, start, [])

    def test_one_mode(self):
        modes = [("list", [put("cons", put("n", kept=True), call(0, 1)), put("nil", kept=True)])]
        self.check(True, LIST, call(0), modes)
        self.check(True, LIST, put("a", call(0), put("b", call(0))), modes)
        self.check(True, LIST, put("a"), modes)
        self.check(True, LIST, put("a"), [("num", [put("n")])])

    def test_several_of_several_kinds(self):
        self.check(True, *ADDED)
        self.check(True, WOOD, START, RULES)
        self.check(True, WOOD, call(1), RULES)
        self.check(True, WOOD, call(3), RULES)
        self.check(True, WOOD, put("a"), RULES)

    def test_each_branch_and_each_mode_of_its_kind(self):
        kinds = [kind for kind, rules in RULES]
        for mode, kind in enumerate(kinds):
            rows = dict(WOOD)[kind]
            for number, row in enumerate(rows):
                for branch, wanted in enumerate(row[1]):
                    for other, its_kind in enumerate(kinds):
                        for rule in [call(other, branch), deep(call(other, branch))]:
                            self.check(its_kind == wanted, WOOD, START, with_rule(mode, number, rule))

    def test_two_hundred_modes(self):
        modes = [("list", [call((number + 1) % 200, 1), put("nil")]) for number in range(200)]
        self.check(True, LIST, call(199), modes)
        self.check(False, LIST, call(200), modes)

    def test_names_put_out_need_not_be_of_the_wood(self):
        self.check(True, LIST, put("x", call(0)), [("list", [put("y", put("z", call(0, 1))), put("w")])])


class TestNotSound(SoundCase):
    def test_a_kind_that_is_not_in_the_wood(self):
        for kind in ["x", "leaf", "end", "list"]:
            for mode in range(5):
                modes = copy.deepcopy(RULES)
                modes[mode] = (kind, modes[mode][1])
                self.check(False, WOOD, START, modes)
            for rules in [[], [put("a")], [put("a"), put("b")]]:
                self.check(False, WOOD, START, RULES + [(kind, rules)])
                self.check(False, WOOD, put("a"), [(kind, rules)])

    def test_a_rule_too_many(self):
        for mode in range(5):
            modes = copy.deepcopy(RULES)
            modes[mode][1].append(put("a"))
            self.check(False, WOOD, START, modes)
        self.check(False, LIST, put("a"), [("num", [put("n"), put("n")])])

    def test_a_rule_too_few(self):
        for mode in range(5):
            modes = copy.deepcopy(RULES)
            modes[mode][1].pop()
            self.check(False, WOOD, START, modes)
        self.check(False, LIST, put("a"), [("num", [])])
        self.check(False, LIST, put("a"), [("list", [])])

    def refused_in_rules(self, mode, number, wrong):
        for rule in [wrong, put("a", wrong), put("a", put("b"), wrong, put("c")), deep(wrong)]:
            self.check(False, WOOD, START, with_rule(mode, number, rule))

    def test_a_call_by_a_mode_that_is_not_there(self):
        for mode in [5, 6, GREAT, -1, -2, -3, -5, -6, -GREAT]:
            self.refused_in_rules(1, 1, call(mode, 0))
            self.refused_in_rules(0, 1, call(mode, 0))
            self.refused_in_rules(3, 2, call(mode, 1))

    def test_python_would_find_modes_below_zero(self):
        # -4 is a mode of kind t where Python counts from the end, -1 the one of kind v.
        self.refused_in_rules(1, 1, call(-4, 0))
        self.refused_in_rules(1, 2, call(-1, 1))

    def test_a_call_on_a_branch_that_is_not_there(self):
        for branch in [3, 4, GREAT, -1, -2, -3, -4, -GREAT]:
            for mode in range(5):
                self.refused_in_rules(1, 1, call(mode, branch))
        for branch in [2, 3, -1, -2]:
            for mode in range(5):
                self.refused_in_rules(3, 2, call(mode, branch))

    def test_a_call_in_a_row_without_branches(self):
        for mode in range(5):
            for branch in [0, 1, -1]:
                self.refused_in_rules(0, 0, call(mode, branch))
                self.refused_in_rules(1, 0, call(mode, branch))
                self.refused_in_rules(4, 0, call(mode, branch))

    def test_a_call_by_a_mode_of_another_kind(self):
        for mode, branch in [(0, 0), (2, 0), (4, 0), (0, 1), (4, 1), (1, 2), (3, 2), (4, 2)]:
            self.refused_in_rules(1, 1, call(mode, branch))
        for mode, branch in [(1, 0), (4, 0), (0, 1), (1, 1), (2, 1), (3, 1)]:
            self.refused_in_rules(3, 2, call(mode, branch))

    def test_in_a_mode_that_is_never_called(self):
        self.check(False, LIST, put("a"), [("list", [call(0, 0), put("nil")])])
        self.check(False, LIST, put("a"), [("list", [call(1, 1), put("nil")])])
        self.check(False, LIST, ADDED[1], ADDED[2] + [("num", [call(1, 0)])])

    def test_the_rows_of_the_kind_in_their_order(self):
        swapped = [("list", [put("nil"), put("cons", call(1, 0), call(0, 1))]), ADDED[2][1]]
        self.check(False, LIST, call(0), swapped)


class TestNoStart(SoundCase):
    def refused_in_start(self, wrong):
        for start in [wrong, put("a", wrong), put("a", call(1), wrong, put("c"))]:
            self.check(False, WOOD, start, RULES)

    def test_a_kept_mark(self):
        for add in [0, 5, -5]:
            self.refused_in_start(put("a", kept=True, add=add))
            self.refused_in_start(put("a", call(1), kept=True, add=add))
            self.refused_in_start(put("b", put("c", put("d"), put("e", kept=True, add=add))))
        self.check(False, LIST, put("a", kept=True), [])
        self.check(False, LIST, put("a", put("b"), put("c", put("d", kept=True))), [])
        self.check(False, LIST, put("a", put("b", kept=True), put("c")), [])

    def test_a_call_on_another_branch(self):
        for branch in [1, 2, GREAT, -1, -GREAT]:
            self.refused_in_start(call(1, branch))
            self.refused_in_start(call(3, branch))

    def test_a_call_by_a_mode_that_is_not_there(self):
        for mode in [5, 6, GREAT, -1, -2, -4, -5, -GREAT]:
            self.refused_in_start(call(mode))
        self.check(False, LIST, call(0), [])
        self.check(False, LIST, put("a", call(0)), [])
        self.check(False, LIST, call(-1), [])

    def test_a_call_by_a_mode_of_another_kind(self):
        for mode in [0, 2, 4]:
            self.refused_in_start(call(mode))
        self.check(False, LIST, call(1), ADDED[2])
        self.check(False, LIST, call(0), [("num", [put("n")])])

    def test_the_first_kind_of_the_wood_counts(self):
        wood = read_wood("num = n; list = nil | cons(num list)")
        self.check(False, wood, call(0), ADDED[2])
        self.check(True, wood, call(1), ADDED[2])


if __name__ == "__main__":
    unittest.main()
