import copy
import random
import unittest

from tests.helper import call, put
from turnery.terms import calls_of, rules_in, term_size, terms_in

GREAT = 10 ** 59
# Triples of a term, its size and its calls.
KNOWN = [
    (call(0), 1, [(0, 0)]),
    (call(7, 3), 1, [(7, 3)]),
    (call(GREAT, GREAT + 1), 1, [(GREAT, GREAT + 1)]),
    (put("a"), 1, []),
    (put("a", kept=True, add=-GREAT), 1, []),
    (put("call"), 1, []),
    (put("put", put("call"), put("put")), 3, []),
    (put("a", call(1)), 2, [(1, 0)]),
    (put("a", call(1, 2), call(2, 1)), 3, [(1, 2), (2, 1)]),
    (put("a", call(2, 1), call(1, 2)), 3, [(2, 1), (1, 2)]),
    (put("a", call(3), call(3), call(3)), 4, [(3, 0), (3, 0), (3, 0)]),
    (put("a", put("b", call(5, 1), call(0)), call(4), put("c"), put("d", put("e", call(5, 1)))), 9,
     [(5, 1), (0, 0), (4, 0), (5, 1)]),
    (put("a", call(0), put("b", call(GREAT, 3), kept=True), call(0, GREAT)), 5, [(0, 0), (GREAT, 3), (0, GREAT)]),
]


def line(many, end):
    """A term of so many levels, the end being one of them."""
    for number in range(many - 1):
        end = put("a", end, kept=number % 2 == 0, add=number)
    return end


def wide(many):
    return put("a", *[call(number, many - number) for number in range(many)])


def grown(chance, room, modes):
    """Some term, of at most so many levels, with calls by so many modes."""
    if room == 1 or chance.random() < 0.2:
        if modes and chance.random() < 0.7:
            return call(chance.randrange(modes), chance.randrange(4))
        return put(chance.choice(["a", "call", "put"]), kept=chance.random() < 0.5, add=chance.randrange(-9, 10))
    parts = [grown(chance, room - 1, modes) for _ in range(chance.randrange(4))]
    return put(chance.choice("abc"), *parts, kept=chance.random() < 0.5, add=chance.randrange(-9, 10))


def walked(term):
    """All puts and calls, by a stack, as they are written."""
    told = []
    stack = [term]
    while stack:
        here = stack.pop()
        told.append(here)
        if here[0] == "put":
            stack.extend(reversed(here[4]))
    return told


def is_of_tuples(term):
    if type(term) is not tuple:
        return False
    if term[0] == "call":
        return len(term) == 3 and [type(each) for each in term] == [str, int, int]
    kinds = [type(each) for each in term]
    return kinds == [str, str, bool, int, tuple] and all(is_of_tuples(part) for part in term[4])


class TestTermSize(unittest.TestCase):
    def test_known(self):
        for term, many, calls in KNOWN:
            with self.subTest(term=term):
                self.assertEqual(term_size(term), many)
                self.assertIs(type(term_size(term)), int)

    def test_deep_and_wide(self):
        self.assertEqual(term_size(line(60, call(0))), 60)
        self.assertEqual(term_size(line(60, put("b"))), 60)
        self.assertEqual(term_size(wide(399)), 400)

    def test_grown(self):
        chance = random.Random(1)
        for _ in range(300):
            term = grown(chance, 6, 3)
            self.assertEqual(term_size(term), len(walked(term)))


class TestCallsOf(unittest.TestCase):
    def test_known(self):
        for term, many, calls in KNOWN:
            with self.subTest(term=term):
                self.assertEqual(calls_of(term), calls)

    def test_a_list_of_tuples(self):
        for term, many, calls in KNOWN:
            told = calls_of(term)
            self.assertIs(type(told), list)
            for each in told:
                self.assertIs(type(each), tuple)
                self.assertEqual([type(number) for number in each], [int, int])

    def test_deep_and_wide(self):
        self.assertEqual(calls_of(line(60, call(4, 2))), [(4, 2)])
        self.assertEqual(calls_of(wide(399)), [(number, 399 - number) for number in range(399)])

    def test_grown(self):
        chance = random.Random(2)
        for _ in range(300):
            term = grown(chance, 6, 3)
            self.assertEqual(calls_of(term), [here[1:] for here in walked(term) if here[0] == "call"])

    def test_a_changed_list_changes_no_later_answer(self):
        for term, many, calls in KNOWN:
            before = copy.deepcopy(term)
            told = calls_of(term)
            told.append((9, 9))
            self.assertEqual(calls_of(term), calls)
            self.assertEqual(told, calls + [(9, 9)])
            self.assertEqual(term, before)


class TestTermsIn(unittest.TestCase):
    def test_a_call_alone(self):
        self.assertEqual(terms_in(call(0, 3), [put("a")]), put("a"))
        self.assertEqual(terms_in(call(1, 3), [None, call(5, 0)]), call(5, 3))
        self.assertEqual(terms_in(call(1, 0), [None, call(5, 2), None]), call(5, 0))
        self.assertEqual(terms_in(call(0, GREAT), [call(GREAT)]), call(GREAT, GREAT))

    def test_no_calls(self):
        for term in [put("a"), put("call", put("b", add=3), kept=True), line(60, put("b"))]:
            self.assertEqual(terms_in(term, []), term)
            self.assertEqual(terms_in(term, [None, None]), term)

    def test_calls_below_puts(self):
        term = put("a", call(2, 1), put("b", call(0, 0)), call(2, 3))
        terms = [put("x", call(7, 5)), None, put("y", call(8), put("z", call(9, 2)))]
        self.assertEqual(terms_in(term, terms),
                         put("a", put("y", call(8, 1), put("z", call(9, 1))), put("b", put("x", call(7, 0))),
                             put("y", call(8, 3), put("z", call(9, 3)))))

    def test_what_is_put_in_is_not_gone_through_again(self):
        self.assertEqual(terms_in(call(0, 1), [put("a", call(0, 0), call(0, 2))]), put("a", call(0, 1), call(0, 1)))
        self.assertEqual(terms_in(call(0, 1), [call(1, 0), call(0, 0)]), call(1, 1))

    def test_kept_and_add_as_they_were(self):
        term = put("a", put("b", call(0, 2), kept=True, add=-3), kept=False, add=GREAT)
        terms = [put("x", put("y", call(1), kept=False, add=8), kept=True, add=-GREAT)]
        self.assertEqual(
            terms_in(term, terms),
            put("a", put("b", put("x", put("y", call(1, 2), add=8), kept=True, add=-GREAT), kept=True, add=-3),
                add=GREAT))

    def test_deep(self):
        self.assertEqual(terms_in(line(60, call(0, 2)), [line(60, call(3, 1))]), line(60, line(60, call(3, 2))))


class TestRulesIn(unittest.TestCase):
    def test_a_call_alone(self):
        self.assertEqual(rules_in(call(0, 3), [put("a")]), put("a"))
        self.assertEqual(rules_in(call(1, 3), [None, call(5, 0)]), call(5, 0))
        self.assertEqual(rules_in(call(1, 0), [None, call(5, 2), None]), call(5, 2))
        self.assertEqual(rules_in(call(0, GREAT), [call(GREAT, 1)]), call(GREAT, 1))

    def test_no_calls(self):
        for term in [put("a"), put("call", put("b", add=3), kept=True), line(60, put("b"))]:
            self.assertEqual(rules_in(term, []), term)
            self.assertEqual(rules_in(term, [None, None]), term)

    def test_calls_below_puts(self):
        term = put("a", call(2, 1), put("b", call(0, 0)), call(2, 3))
        first, last = put("x", call(7, 5)), put("y", call(8), put("z", call(9, 2)))
        self.assertEqual(rules_in(term, [first, None, last]), put("a", last, put("b", first), last))

    def test_what_is_put_in_is_not_gone_through_again(self):
        rule = put("a", call(0, 0), call(0, 2))
        self.assertEqual(rules_in(call(0, 1), [rule]), rule)
        self.assertEqual(rules_in(call(0, 1), [call(1, 0), call(0, 0)]), call(1, 0))

    def test_kept_and_add_as_they_were(self):
        rule = put("x", put("y", call(1, 4), kept=False, add=8), kept=True, add=-GREAT)
        term = put("a", put("b", call(0, 2), kept=True, add=-3), kept=False, add=GREAT)
        self.assertEqual(rules_in(term, [rule]), put("a", put("b", rule, kept=True, add=-3), add=GREAT))

    def test_deep(self):
        self.assertEqual(rules_in(line(60, call(0, 2)), [line(60, call(3, 1))]), line(60, line(60, call(3, 1))))


class TestBoth(unittest.TestCase):
    def test_grown(self):
        chance = random.Random(3)
        for _ in range(300):
            term = grown(chance, 5, 4)
            called = {mode for mode, branch in calls_of(term)}
            terms = [grown(chance, 4, 9) if mode in called else None for mode in range(4)]
            before = copy.deepcopy((term, terms))
            by_terms, by_rules = terms_in(term, terms), rules_in(term, terms)
            for told in (by_terms, by_rules):
                self.assertTrue(is_of_tuples(told))
                self.assertEqual(self.without_calls(told), self.without_calls(self.spread(term, terms)))
            inner = [(call, branch) for mode, branch in calls_of(term) for call in calls_of(terms[mode])]
            self.assertEqual(calls_of(by_terms), [(call[0], branch) for call, branch in inner])
            self.assertEqual(calls_of(by_rules), [call for call, branch in inner])
            self.assertEqual((terms_in(term, terms), rules_in(term, terms)), (by_terms, by_rules))
            self.assertEqual((term, terms), before)

    def spread(self, term, terms):
        """The puts and calls of the term as they are written, each call giving way to those of its mode's term."""
        told = []
        for here in walked(term):
            told += walked(terms[here[1]]) if here[0] == "call" else [here]
        return told

    def without_calls(self, told):
        """What is told of each put and call but their modes, branches and parts."""
        told = told if type(told) is list else walked(told)
        return ["call" if here[0] == "call" else here[:4] + (len(here[4]),) for here in told]

    def test_what_was_told_stays(self):
        terms = [put("x", call(0, 1)), None]
        told = [terms_in(call(0, 2), terms), rules_in(call(0, 2), terms)]
        terms[0] = put("y")
        terms.append(None)
        self.assertEqual(told, [put("x", call(0, 2)), put("x", call(0, 1))])
        self.assertEqual(terms_in(call(0, 2), terms), put("y"))
        self.assertEqual(rules_in(call(0, 2), terms), put("y"))


if __name__ == "__main__":
    unittest.main()
