import copy
import random
import unittest

from tests.helper import (ADDED, LINE, LIST, TURN, WOOD, alike_turning, call, doubled, grown_turning, line_term,
                          one_odd, put, rewritten, ring, shuffled, wide_term)
from turnery.early import early
from turnery.errors import OtherWood
from turnery.least import least, stand
from turnery.papers import is_paper
from turnery.running import reached
from turnery.turntexts import read_turning
from turnery.woods import read_wood

SMALL = read_wood("t = l | k | n(t) | m(u t); u = e | f(t)")
# Two kinds with the same rows.
TURNS = read_wood("t = l | n(u); u = l | n(t)")
WOODS = [LIST, WOOD, LINE, SMALL, TURNS]


def own_paper(turning):
    """The paper by which the turning makes the same as it does itself."""
    return [call(mode) for mode in range(len(turning[2]))]


def changed_terms(term, modes):
    """Terms that are the term but for one thing, modes being the numbers by which may be called."""
    if term[0] == "call":
        others = [call(mode) for mode in modes if mode != term[1]]
        return others + [("call", term[1], 1), put("a"), put("b", term)]
    told = [put(term[1] + "x", *term[4], add=term[3]), put(term[1], *term[4], add=term[3] + 1),
            put(term[1], *term[4], add=-term[3] - 1), put(term[1], *term[4], put("a"), add=term[3])]
    if term[4]:
        told.append(put(term[1], *term[4][1:], add=term[3]))
    for number, part in enumerate(term[4]):
        for other in changed_terms(part, modes):
            told.append(term[:4] + (term[4][:number] + (other,) + term[4][number + 1:],))
    return told


class Papers(unittest.TestCase):
    def told(self, one, terms, other):
        """What is told, with what is handed in staying as it is."""
        before = copy.deepcopy((one, terms, other))
        answer = is_paper(one, terms, other)
        self.assertIn(answer, [True, False])
        self.assertIs(type(answer), bool)
        self.assertEqual((one, terms, other), before)
        self.assertIs(is_paper(one, terms, other), answer)
        return answer

    def is_one(self, one, terms, other):
        self.assertTrue(self.told(one, terms, other), (one, terms, other))

    def is_none(self, one, terms, other):
        self.assertFalse(self.told(one, terms, other), (one, terms, other))


class TestStands(Papers):
    """The stand of a turning is a paper for it and its least turning."""

    def test_the_examples(self):
        for turning in [ADDED, TURN]:
            self.is_one(turning, stand(turning), least(turning))
            self.is_one(early(turning), stand(early(turning)), least(turning))
            self.is_one(turning, own_paper(turning), turning)

    def test_no_modes(self):
        self.is_one((LINE, put("a"), []), [], (LINE, put("a"), []))
        self.is_none((LINE, put("a"), []), [], (LINE, put("b"), []))
        self.is_one((LINE, put("a"), []), [], (LINE, put("a"), ring(3)[2]))
        self.is_one((LINE, put("a"), ring(3)[2]), [None] * 3, (LINE, put("a"), []))

    def test_grown(self):
        chance = random.Random(50)
        for number in range(250):
            wood = WOODS[number % 5]
            turning = grown_turning(chance, wood, chance.randrange(1, 5), 3)
            if number % 3 > 0:
                turning = alike_turning(chance, wood, chance.randrange(1, 9), 0.1)
            for each in [turning, rewritten(chance, turning)]:
                self.is_one(each, stand(each), least(turning))
                self.is_one(least(turning), own_paper(least(turning)), least(turning))

    def test_rings(self):
        for length in [1, 2, 40, 200]:
            self.is_one(ring(length), stand(ring(length)), least(ring(length)))

    def test_great_terms(self):
        for modes in [[("t", [line_term(60, put("x")), line_term(60, put("y"))])],
                      [("t", [wide_term(400, put("x")), wide_term(400, put("y"))])],
                      [("t", [put("a", *[put("b", kept=True)] * 199), put("a", *[call(1, 0)] * 199)]),
                       ("t", [put("b"), put("c")])]]:
            turning = (LINE, call(0), modes)
            self.is_one(turning, stand(turning), least(turning))

    def test_one_thing_changed(self):
        chance = random.Random(51)
        tried = 0
        for number in range(100):
            turning = alike_turning(chance, WOODS[number % 5], chance.randrange(1, 6), 0.15)
            terms = stand(turning)
            known = least(turning)
            for mode in reached(turning):
                for other in changed_terms(terms[mode], range(len(known[2]))) + [None]:
                    self.is_none(turning, terms[:mode] + [other] + terms[mode + 1:], known)
                    tried += 1
        self.assertGreater(tried, 1000)

    def test_other_turnings(self):
        """A paper tells that both make the same, so there is none where they don't."""
        chance = random.Random(52)
        told = []
        for number in range(200):
            turning = alike_turning(chance, WOODS[number % 5], chance.randrange(1, 6), 0.1)
            other = one_odd(chance, turning)
            told.append(least(other) == least(turning))
            self.assertEqual(self.told(turning, stand(turning), least(other)), told[-1])
            if not told[-1]:
                self.is_none(turning, own_paper(turning), other)
        self.assertGreater(told.count(False), 50)
        self.assertGreater(told.count(True), 20)


class TestOtherPapers(Papers):
    """Papers for turnings of which neither need be least."""

    def test_modes_for_modes(self):
        chance = random.Random(53)
        for number in range(60):
            turning = grown_turning(chance, WOODS[number % 5], chance.randrange(1, 5), 3)
            self.is_one(turning, own_paper(turning), turning)
            self.is_one(doubled(chance, turning), own_paper(turning) * 2, turning)

    def test_modes_in_another_order(self):
        for number in range(20):
            turning = shuffled(random.Random(number), TURN)
            order = list(range(len(TURN[2])))
            random.Random(number).shuffle(order)
            self.is_one(turning, [call(mode) for mode in order], TURN)
            if order != [0, 1, 2, 3]:
                self.is_none(turning, own_paper(TURN), TURN)

    def test_what_is_put_out_early(self):
        late = read_turning(LINE, "*q0; q t l : a(b); q t n : a(c(*q0))")
        soon = read_turning(LINE, "a(*q0); q t l : b; q t n : c(a(*q0))")
        self.is_one(late, [put("a", call(0))], soon)
        self.is_none(late, [call(0)], soon)
        # There is none the other way, as no term tells what stands within.
        for term in [call(0), put("a", call(0)), None]:
            self.is_none(soon, [term], late)

    def test_kept_marks_in_rules(self):
        one = read_turning(LINE, "*q0; q t l : a=; q t n : b=5(*q0)")
        self.is_one(one, [call(0)], one)
        for text in ["*q0; q t l : a; q t n : b=5(*q0)", "*q0; q t l : a=; q t n : b5(*q0)",
                     "*q0; q t l : a=; q t n : b=4(*q0)", "*q0; q t l : a=1; q t n : b=5(*q0)"]:
            self.is_none(one, [call(0)], read_turning(LINE, text))
            self.is_none(read_turning(LINE, text), [call(0)], one)

    def test_branches_of_rules(self):
        two = read_wood("t = l | n(t t)")
        one = read_turning(two, "*q0; q t l : a; q t n : b(*q0)")
        other = read_turning(two, "*q0; q t l : a; q t n : b(*q1)")
        self.is_one(one, [call(0)], one)
        self.is_one(other, [call(0)], other)
        self.is_none(one, [call(0)], other)
        self.is_none(other, [call(0)], one)

    def test_each_row_is_looked_at(self):
        one = read_turning(SMALL, "*q0; q t l : a; q t k : b; q t n : c; q t m : d")
        for text in ["a; q t k : b; q t n : c; q t m : e", "a; q t k : b; q t n : e; q t m : d",
                     "a; q t k : e; q t n : c; q t m : d", "e; q t k : b; q t n : c; q t m : d"]:
            self.is_none(one, [call(0)], read_turning(SMALL, "*q0; q t l : " + text))

    def test_each_mode_is_looked_at(self):
        modes = ring(3)[2]
        for mode in range(3):
            other = [("t", [put("z"), rules[1]]) if number == mode else (kind, rules)
                     for number, (kind, rules) in enumerate(modes)]
            self.is_none((LINE, call(0), modes), [call(0), call(1), call(2)], (LINE, call(0), other))
            self.is_none((LINE, call(0), other), [call(0), call(1), call(2)], (LINE, call(0), modes))


class TestNone(Papers):
    MODES = ring(2)[2] + [("t", [put("c"), call(3, 0)]), ("t", [put("d"), put("d")])]

    def test_for_modes_that_are_called(self):
        turning = (LINE, put("x", call(0), call(2)), self.MODES)
        self.is_one(turning, own_paper(turning), turning)
        for mode in range(4):
            terms = own_paper(turning)
            terms[mode] = None
            self.is_none(turning, terms, turning)

    def test_for_modes_that_are_not_called(self):
        turning = (LINE, call(0), self.MODES)
        self.is_one(turning, [call(0), call(1), None, None], turning)
        self.is_one(turning, [call(0), call(1), None, call(3)], turning)
        self.is_one(turning, own_paper(turning), turning)
        # A mode with a term is looked at though it isn't reached, and so is what it calls.
        self.is_none(turning, [call(0), call(1), call(2), None], turning)
        self.is_none(turning, [call(0), call(1), None, call(2)], turning)
        self.is_none(turning, [call(0), call(1), None, put("z")], turning)
        self.is_none(turning, [None, call(1), None, None], turning)
        self.is_none(turning, [call(0), None, None, None], turning)

    def test_in_a_start_by_itself(self):
        turning = (LINE, call(0), [("t", [put("a"), put("b")])])
        self.is_none(turning, [None], turning)
        self.is_one((LINE, put("c"), turning[2]), [None], (LINE, put("c"), turning[2]))

    def test_a_mode_that_calls_itself(self):
        turning = (LINE, put("c"), [("t", [put("a"), put("b", call(0, 0))])])
        self.is_one(turning, [None], turning)
        self.is_one(turning, [call(0)], turning)


class TestCalls(Papers):
    # Modes 0 and 2 are of t, 1 and 3 of u, and all make the same.
    MODES = [("t", [put("a"), put("b", call(1, 0))]), ("u", [put("a"), put("b", call(0, 0))])] * 2
    TURNING = (TURNS, call(0), MODES)

    def test_by_modes_that_are_there(self):
        self.is_one(self.TURNING, [call(0), call(1), call(0), call(1)], self.TURNING)
        self.is_one(self.TURNING, [call(0), call(1), None, None], self.TURNING)

    def test_by_modes_that_are_not_there(self):
        # Mode -2 would be mode 2, -1 would be mode 3 and 4 none.
        for mode, wrong in [(0, -2), (0, -4), (0, 4), (0, 99), (1, -1), (1, -3), (1, 4), (0, -5), (0, 10 ** 60)]:
            terms = [call(0), call(1), None, None]
            terms[mode] = call(wrong)
            self.is_none(self.TURNING, terms, self.TURNING)
            # Also where no one calls the mode.
            terms = [call(0), call(1), None, None]
            terms[mode + 2] = call(wrong)
            self.is_none(self.TURNING, terms, self.TURNING)
            terms[mode + 2] = put("a", call(mode), put("b", call(wrong)))
            self.is_none(self.TURNING, terms, self.TURNING)

    def test_of_a_turning_without_modes(self):
        for mode in [0, -1, 1]:
            self.is_none((LINE, call(0), [("t", [put("a"), put("a")])]), [call(mode)], (LINE, put("a"), []))
        self.is_one((LINE, call(0), [("t", [put("a"), put("a")])]), [put("a")], (LINE, put("a"), []))

    def test_by_modes_of_another_kind(self):
        for terms in [[call(1), call(1), None, None], [call(0), call(0), None, None], [call(1), call(0), None, None],
                      [call(0), call(1), call(1), None], [call(0), call(1), None, call(0)],
                      [call(0), call(1), None, call(2)]]:
            self.is_none(self.TURNING, terms, self.TURNING)
        # Else the same: each of both would come to the other's rules, whose rows have the same names.
        plain = (TURNS, put("c"), [("t", [put("a"), put("b")]), ("u", [put("a"), put("b")])])
        self.is_one(plain, [call(0), call(1)], plain)
        self.is_none(plain, [call(1), call(1)], plain)
        self.is_none(plain, [call(0), call(0)], plain)
        self.is_none(plain, [None, call(0)], plain)

    def test_on_other_branches(self):
        for branch in [1, -1, 2, 5]:
            for mode in range(4):
                terms = [call(0), call(1), call(2), call(3)]
                terms[mode] = call(mode, branch)
                self.is_none(self.TURNING, terms, self.TURNING)
        # The branches of the terms are dropped, so all else would be right.
        self.is_one(self.TURNING, [call(0), call(1), call(2), call(3)], self.TURNING)

    def test_what_is_no_list_for_the_one(self):
        self.is_none(self.TURNING, [call(0), call(1), None], self.TURNING)
        self.is_none(self.TURNING, [call(0), call(1), None, None, None], self.TURNING)
        keeping = (LINE, put("x"), [("t", [put("a", kept=True), put("a", kept=True)])])
        self.is_none(keeping, [put("a", kept=True)], (LINE, put("x"), []))


class TestStarts(Papers):
    def test_other_starts(self):
        modes = [("t", [put("a"), put("b", call(1, 0))]), ("t", [put("b"), put("a", call(0, 0))])]
        for one, other, told in [(call(0), call(0), True), (call(0), call(1), False), (call(0), put("a"), False),
                                 (put("x", call(0), call(1)), put("x", call(0), call(1)), True),
                                 (put("x", call(0), call(1)), put("x", call(1), call(0)), False),
                                 (put("x"), put("x"), True), (put("x"), put("x", add=1), False),
                                 (put("x"), put("y"), False), (put("x"), put("x", put("x")), False)]:
            self.assertEqual(self.told((LINE, one, modes), [call(0), call(1)], (LINE, other, modes)), told)

    def test_modes_that_do_what_others_do(self):
        modes = [("t", [put("a"), put("b", call(1, 0))]), ("t", [put("a"), put("b", call(0, 0))])]
        for terms, start in [([call(0), call(1)], call(0)), ([call(1), call(0)], call(1))]:
            self.is_one((LINE, call(0), modes), terms, (LINE, start, modes))
            self.is_none((LINE, call(1), modes), terms, (LINE, start, modes))
        # Both by one mode: what they come to calls mode 0, but the other's mode 0 calls mode 1.
        self.is_none((LINE, call(0), modes), [call(0), call(0)], (LINE, call(0), modes))
        once = (LINE, call(0), [("t", [put("a"), put("b", call(0, 0))])])
        self.is_one((LINE, call(0), modes), [call(0), call(0)], once)


class TestWoods(unittest.TestCase):
    def refuses(self, one, terms, other):
        with self.assertRaises(OtherWood) as caught:
            is_paper(one, terms, other)
        self.assertIs(type(caught.exception), OtherWood)

    def test_unlike_woods(self):
        for one, other in [("t = l | n(t)", "t = l"), ("t = l | n(t)", "t = l | n(t t)"), ("t = l", "u = l"),
                           ("t = l; u = l", "u = l; t = l"), ("t = l", "t = l; u = l"), ("t = l", "t = m")]:
            first = (read_wood(one), put("a"), [])
            second = (read_wood(other), put("a"), [])
            self.refuses(first, [], second)
            self.refuses(second, [], first)

    def test_ahead_of_all_else(self):
        one = (LINE, call(0), [("t", [put("a"), put("b")])])
        other = (read_wood("t = l | m(t)"), call(0), [("t", [put("a"), put("b")])])
        for terms in [[call(0)], [None], [call(-1)], [call(5)], [call(0, 1)], [put("z")], []]:
            self.refuses(one, terms, other)

    def test_equal_woods_that_are_not_one(self):
        one = (read_wood("t = n(t) | l"), call(0), [("t", [put("a"), put("b")])])
        other = (read_wood("t = l | n(t)"), call(0), [("t", [put("a"), put("b")])])
        self.assertIs(is_paper(one, [call(0)], other), True)


if __name__ == "__main__":
    unittest.main()
