import copy
import itertools
import random
import unittest

from tests.helper import MOST, WOOD, grown_tree, line
from turnery.stumps import begins, met, opens, stump_of
from turnery.trees import at, places, put_at
from turnery.treetexts import read_tree

OPEN = ("open",)


def stump(name, *parts, mark=0):
    return ("put", name, mark, parts)


def grown_stump(chance, room):
    """Some stump of at most so many levels, with few names and marks."""
    if chance.random() < 0.2:
        return OPEN
    many = chance.randrange(3) if room > 1 else 0
    return stump(chance.choice("ab"), *[grown_stump(chance, room - 1) for _ in range(many)], mark=chance.randrange(2))


def cut(chance, found):
    """The stump, open at some places more."""
    if found == OPEN or chance.random() < 0.2:
        return OPEN
    return found[:3] + (tuple(cut(chance, part) for part in found[3]),)


def heads(found, place=()):
    """(name, mark, number of parts) by places, of a stump, None where it is open."""
    if found == OPEN:
        return {place: None}
    told = {place: (found[1], found[2], len(found[3]))}
    for number, part in enumerate(found[3]):
        told.update(heads(part, place + (number,)))
    return told


class TestStumpOf(unittest.TestCase):
    def test_small(self):
        self.assertEqual(stump_of(("a", 0, ())), ("put", "a", 0, ()))
        self.assertEqual(stump_of(read_tree("a5(b c-3(d) b)")),
                         ("put", "a", 5, (("put", "b", 0, ()), ("put", "c", -3, (("put", "d", 0, ()),)),
                                          ("put", "b", 0, ()))))
        # A name is but a name.
        self.assertEqual(stump_of(("open", 0, ())), ("put", "open", 0, ()))

    def test_marks(self):
        for mark in [0, 1, -1, MOST, -MOST]:
            self.assertEqual(stump_of(("a", mark, ())), ("put", "a", mark, ()))

    def test_no_open_places_and_tuples(self):
        chance = random.Random(1)
        for _ in range(50):
            tree = grown_tree(chance, WOOD, "t", 5)
            told = stump_of(tree)
            self.assertEqual(opens(told), [])
            self.assertTrue(begins(told, tree))
            self.assertEqual(list(heads(told)), places(tree))
            while told:
                self.assertEqual([type(each) for each in told], [str, str, int, tuple])
                self.assertIs(type(told), tuple)
                told = told[3][0] if told[3] else None

    def test_great(self):
        self.assertEqual(list(heads(stump_of(line(40)))), places(line(40)))
        wide = ("a", 0, (("b", 0, ()),) * 199)
        self.assertEqual(stump_of(wide), stump("a", *[stump("b")] * 199))


class TestBegins(unittest.TestCase):
    def test_open(self):
        for text in ["a", "a5(b c-3(d) b)", "open"]:
            self.assertIs(begins(OPEN, read_tree(text)), True)

    def test_at_the_root(self):
        tree = read_tree("a5(b c)")
        for found, told in [(stump("a", OPEN, OPEN, mark=5), True),
                            (stump("a", stump("b"), OPEN, mark=5), True),
                            (stump("a", OPEN, stump("c"), mark=5), True),
                            (stump("b", OPEN, OPEN, mark=5), False),
                            (stump("open", OPEN, OPEN, mark=5), False),
                            (stump("a", OPEN, OPEN, mark=4), False),
                            (stump("a", OPEN, OPEN, mark=-5), False),
                            (stump("a", OPEN, OPEN), False),
                            (stump("a", OPEN, mark=5), False),
                            (stump("a", mark=5), False),
                            (stump("a", OPEN, OPEN, OPEN, mark=5), False),
                            (stump("a", stump("c"), OPEN, mark=5), False),
                            (stump("a", OPEN, stump("b"), mark=5), False),
                            (stump("a", stump("b"), stump("c", mark=1), mark=5), False)]:
            self.assertIs(begins(found, tree), told, found)

    def test_at_each_place(self):
        for text in ["a", "a5(b c-3(d(e)) b)", "a(a(a(a a) a) a(a a))"]:
            tree = read_tree(text)
            for place in places(tree):
                name, mark, branches = at(tree, place)
                for other in [(name + "x", mark, branches), (name, mark + 1, branches), (name, -mark - 1, branches),
                              (name, mark, branches + (("a", 0, ()),)), (name, mark, (("b", 0, ()),) + branches)]:
                    changed = put_at(tree, place, other)
                    self.assertIs(begins(stump_of(changed), tree), False, (text, place))
                    self.assertIs(begins(stump_of(tree), changed), False, (text, place))
                if branches:
                    changed = put_at(tree, place, (name, mark, branches[:-1]))
                    self.assertIs(begins(stump_of(changed), tree), False, (text, place))
                    self.assertIs(begins(stump_of(tree), changed), False, (text, place))

    def test_open_somewhere(self):
        chance = random.Random(2)
        for _ in range(200):
            tree = grown_tree(chance, WOOD, "t", 5)
            self.assertTrue(begins(cut(chance, stump_of(tree)), tree))

    def test_against_the_heads(self):
        chance = random.Random(3)
        told = []
        for _ in range(1000):
            found = grown_stump(chance, 3)
            tree = put_at(("a", chance.randrange(2), (("a", 0, ()), ("b", 1, ()))), (0,), ("a", 0, (("b", 1, ()),)))
            seen = {place: at(tree, place) for place in places(tree)}
            fits = all(head is None or (place in seen and (seen[place][0], seen[place][1], len(seen[place][2])) == head)
                       for place, head in heads(found).items())
            self.assertIs(begins(found, tree), fits)
            told.append(fits and found != OPEN)
        self.assertIn(True, told)

    def test_great_marks_and_trees(self):
        for mark in [0, 1, -1, MOST, -MOST]:
            for other in [0, 1, -1, MOST, -MOST]:
                self.assertIs(begins(stump("a", mark=mark), ("a", other, ())), mark == other)
        self.assertIs(begins(stump_of(line(40)), line(40)), True)
        self.assertIs(begins(stump_of(line(40)), line(40, end="m")), False)
        self.assertIs(begins(stump_of(line(40)), line(39)), False)


class TestOpens(unittest.TestCase):
    def test_small(self):
        self.assertEqual(opens(OPEN), [()])
        self.assertEqual(opens(stump("a")), [])
        self.assertEqual(opens(stump("open", stump("b"), mark=3)), [])
        self.assertEqual(opens(stump("a", OPEN)), [(0,)])
        self.assertEqual(opens(stump("a", stump("b"), OPEN)), [(1,)])

    def test_the_order_of_places(self):
        found = stump("a", stump("b", OPEN, stump("c", OPEN, stump("d")), OPEN), OPEN, stump("e", stump("f"), OPEN))
        self.assertEqual(opens(found), [(0, 0), (0, 1, 0), (0, 2), (1,), (2, 1)])
        self.assertEqual(opens(stump("a", *[OPEN] * 12)), [(number,) for number in range(12)])

    def test_kinds_and_new_lists(self):
        found = stump("a", OPEN, OPEN)
        told = opens(found)
        self.assertIs(type(told), list)
        self.assertEqual([type(place) for place in told], [tuple, tuple])
        told.clear()
        self.assertEqual(opens(found), [(0,), (1,)])
        self.assertEqual(opens(OPEN), [()])

    def test_grown(self):
        chance = random.Random(4)
        for _ in range(200):
            found = grown_stump(chance, 4)
            self.assertEqual(opens(found), [place for place, head in heads(found).items() if head is None])

    def test_deep(self):
        found = OPEN
        for _ in range(59):
            found = stump("a", found)
        self.assertEqual(opens(found), [(0,) * 59])


class TestMet(unittest.TestCase):
    def test_with_itself_and_with_an_open_one(self):
        for found in [OPEN, stump("a"), stump("a", OPEN, stump("b", mark=-2), mark=7), stump_of(line(40))]:
            self.assertEqual(met(found, found), found)
            self.assertEqual(met(found, OPEN), OPEN)
            self.assertEqual(met(OPEN, found), OPEN)

    def test_unlike_at_the_root(self):
        one = stump("a", stump("b"), mark=3)
        for other in [stump("b", stump("b"), mark=3), stump("a", stump("b"), mark=2), stump("a", stump("b"), mark=-3),
                      stump("a", mark=3), stump("a", stump("b"), stump("b"), mark=3), stump("open", mark=3)]:
            self.assertEqual(met(one, other), OPEN)
            self.assertEqual(met(other, one), OPEN)

    def test_unlike_deep_down(self):
        def around(part):
            return stump("a", stump("b", stump("c"), part, mark=4), stump("d", stump("e")), mark=-1)

        one = stump("f", stump("g"), mark=2)
        for other in [stump("x", stump("g"), mark=2), stump("f", stump("g"), mark=3), stump("f", mark=2),
                      stump("f", stump("g"), stump("g"), mark=2), OPEN]:
            self.assertEqual(met(around(one), around(other)), around(OPEN))
            self.assertEqual(met(around(other), around(one)), around(OPEN))
        self.assertEqual(met(around(one), around(stump("f", stump("h"), mark=2))), around(stump("f", OPEN, mark=2)))

    def test_unlike_at_several_places(self):
        one = stump("a", stump("b"), stump("c", stump("d"), OPEN), stump("e"), OPEN)
        other = stump("a", stump("x"), stump("c", OPEN, stump("f")), stump("e"), stump("g"))
        self.assertEqual(met(one, other), stump("a", OPEN, stump("c", OPEN, OPEN), stump("e"), OPEN))

    def test_marks(self):
        for mark in [0, 1, -1, MOST, -MOST, MOST - 1]:
            for other in [0, 1, -1, MOST, -MOST, MOST - 1]:
                told = met(stump("a", mark=mark), stump("a", mark=other))
                self.assertEqual(told, stump("a", mark=mark) if mark == other else OPEN)

    def test_in_either_order_and_grouping(self):
        chance = random.Random(5)
        greatest = 0
        for number in range(600):
            three = [grown_stump(chance, 4) for _ in range(3)]
            if number % 2:
                three = [cut(chance, three[0]) for _ in range(3)]
            told = [met(met(one, other), third) for one, other, third in itertools.permutations(three)]
            told += [met(one, met(other, third)) for one, other, third in itertools.permutations(three)]
            self.assertEqual(told, told[:1] * 12)
            greatest = max(greatest, len(heads(told[0])))
        self.assertGreater(greatest, 5)

    def test_both_begin_with_it_and_it_is_open_only_where_it_must_be(self):
        chance = random.Random(6)
        for _ in range(300):
            one = grown_tree(chance, WOOD, "t", 4)
            other = put_at(one, chance.choice(places(one)), grown_tree(chance, WOOD, "t", 3))
            told = met(stump_of(one), stump_of(other))
            self.assertTrue(begins(told, one) and begins(told, other))
            for place in opens(told):
                found = [at(tree, place) for tree in (one, other)]
                self.assertEqual(len({(tree[0], tree[1], len(tree[2])) for tree in found}), 2)

    def test_what_is_handed_in_stays(self):
        one = stump_of(read_tree("cons3(n5 nil)"))
        other = stump_of(read_tree("cons3(n6 nil)"))
        before = copy.deepcopy((one, other))
        told = met(one, other)
        self.assertEqual(told, ("put", "cons", 3, (OPEN, ("put", "nil", 0, ()))))
        self.assertEqual((one, other), before)
        self.assertEqual([type(each) for each in told], [str, str, int, tuple])
        self.assertEqual(met(one, other), told)


if __name__ == "__main__":
    unittest.main()
