import copy
import unittest

from turnery.trees import at, levels, places, put_at, size

LEAF = ("a", 0, ())
# a5(b c-3(d e(f)) b)
TREE = ("a", 5, (("b", 0, ()), ("c", -3, (("d", 7, ()), ("e", 0, (("f", 1, ()),)))), ("b", 0, ())))
TREE_PLACES = [(), (0,), (1,), (1, 0), (1, 1), (1, 1, 0), (2,)]
OTHER = ("z", 10 ** 59, (("y", -1, ()),))
BAD_PLACES = [
    (3,), (99,), (-1,), (-3,), (10 ** 60,), (-(10 ** 60),),
    (3, 0), (-1, 0), (-2, 0), (-2, 1, 0),
    (1, 2), (1, -1), (1, -2), (1, -1, 0), (1, 2, 0),
    (1, 1, 1), (1, 1, -1),
    (0, 0), (0, -1), (2, 0), (1, 0, 0), (1, 1, 0, 0), (1, 1, 0, -1),
    (1, 1, 0) + (0,) * 200,
]


def line(many, mark=0):
    """A tree of so many levels with one branch each."""
    tree = ("end", mark, ())
    for _ in range(many - 1):
        tree = ("on", mark, (tree,))
    return tree


def comb(many):
    """A tree of so many levels, each but the last with a leaf ahead and behind."""
    tree = ("end", 1, ())
    for number in range(many - 1):
        tree = ("comb", number, (LEAF, tree, LEAF))
    return tree


def wide(many):
    """A root with so many leaves."""
    return ("root", 0, tuple(("leaf", number, ()) for number in range(many)))


def walked(tree):
    """The pairs of place and tree, by a stack, to hold the answers against."""
    told = []
    stack = [((), tree)]
    while stack:
        place, here = stack.pop()
        told.append((place, here))
        for number in reversed(range(len(here[2]))):
            stack.append((place + (number,), here[2][number]))
    return told


TREES = [LEAF, TREE, OTHER, line(40), comb(40), comb(67), wide(199), wide(1), line(2)]


class TestSizeAndLevels(unittest.TestCase):
    def check(self, tree, many, tall):
        self.assertEqual((size(tree), levels(tree)), (many, tall))
        self.assertIs(type(size(tree)), int)
        self.assertIs(type(levels(tree)), int)

    def test_one_name(self):
        self.check(LEAF, 1, 1)
        self.check(("abcdefgh", -(10 ** 59), ()), 1, 1)

    def test_ordinary(self):
        self.check(TREE, 7, 4)
        self.check(OTHER, 2, 2)

    def test_wide(self):
        self.check(wide(1), 2, 2)
        self.check(wide(30), 31, 2)

    def test_deep(self):
        self.check(line(40), 40, 40)
        self.check(comb(40), 118, 40)

    def test_two_hundred_names(self):
        self.check(wide(199), 200, 2)
        self.check(("a", 0, (comb(40), wide(80))), 200, 41)
        self.check(("a", 0, (comb(39), wide(83))), 200, 40)

    def test_the_deepest_branch_counts_wherever_it_stands(self):
        for spot in range(4):
            branches = [LEAF, line(2), LEAF]
            branches.insert(spot, line(5))
            self.check(("a", 0, tuple(branches)), 10, 6)

    def test_the_same_again(self):
        for tree in TREES:
            self.assertEqual((size(tree), levels(tree)), (size(tree), levels(tree)))


class TestPlaces(unittest.TestCase):
    def test_one_name(self):
        self.assertEqual(places(LEAF), [()])

    def test_order(self):
        self.assertEqual(places(TREE), TREE_PLACES)

    def test_wide(self):
        self.assertEqual(places(wide(199)), [()] + [(number,) for number in range(199)])

    def test_deep(self):
        self.assertEqual(places(line(40)), [(0,) * many for many in range(40)])

    def test_as_many_as_names_and_as_long_as_levels(self):
        for tree in TREES:
            self.assertEqual(len(places(tree)), size(tree))
            self.assertEqual(max(len(place) for place in places(tree)) + 1, levels(tree))

    def test_as_walked(self):
        for tree in TREES:
            self.assertEqual(places(tree), [place for place, here in walked(tree)])

    def test_a_list_of_tuples(self):
        for tree in TREES:
            told = places(tree)
            self.assertIs(type(told), list)
            self.assertEqual({type(place) for place in told}, {tuple})

    def test_a_changed_list_changes_no_later_answer(self):
        for tree in TREES:
            before = copy.deepcopy(tree)
            told = places(tree)
            kept = list(told)
            told.append((7, 7))
            told[0] = None
            self.assertEqual(places(tree), kept)
            self.assertEqual(tree, before)
            later = places(tree)
            self.assertEqual(told, [None] + kept[1:] + [(7, 7)])
            later.clear()
            self.assertEqual(places(tree), kept)


class TestAt(unittest.TestCase):
    def test_root(self):
        for tree in TREES:
            self.assertEqual(at(tree, ()), tree)

    def test_inner(self):
        self.assertEqual(at(TREE, (1,)), TREE[2][1])
        self.assertEqual(at(TREE, (1, 1)), ("e", 0, (("f", 1, ()),)))

    def test_leaves(self):
        self.assertEqual(at(TREE, (0,)), ("b", 0, ()))
        self.assertEqual(at(TREE, (1, 0)), ("d", 7, ()))
        self.assertEqual(at(TREE, (1, 1, 0)), ("f", 1, ()))
        self.assertEqual(at(wide(199), (198,)), ("leaf", 198, ()))
        self.assertEqual(at(line(40, 3), (0,) * 39), ("end", 3, ()))

    def test_every_place(self):
        for tree in TREES:
            for place, here in walked(tree):
                self.assertEqual(at(tree, place), here)

    def test_no_such_place(self):
        for place in BAD_PLACES:
            with self.subTest(place=place):
                self.assertIsNone(at(TREE, place))
        for place in [(0,), (-1,), (1,), (0, 0)]:
            self.assertIsNone(at(LEAF, place))
        self.assertIsNone(at(line(40), (0,) * 40))

    def test_a_wrong_number_at_any_spot(self):
        deep = comb(40)
        way = (1,) * 39
        for spot in range(39):
            for wrong in (-1, -2, -3, 3, 4):
                self.assertIsNone(at(deep, way[:spot] + (wrong,) + way[spot + 1:]))

    def test_a_truth_is_no_number(self):
        self.assertIsNone(at(TREE, (True,)))
        self.assertIsNone(at(TREE, (1, False)))


class TestPutAt(unittest.TestCase):
    def is_of_tuples(self, tree):
        return type(tree) is tuple and type(tree[2]) is tuple and all(self.is_of_tuples(part) for part in tree[2])

    def test_root(self):
        for tree in TREES:
            self.assertEqual(put_at(tree, (), OTHER), OTHER)

    def test_inner(self):
        told = put_at(TREE, (1, 1), OTHER)
        self.assertEqual(told, ("a", 5, (("b", 0, ()), ("c", -3, (("d", 7, ()), OTHER)), ("b", 0, ()))))
        told = put_at(TREE, (1,), LEAF)
        self.assertEqual(told, ("a", 5, (("b", 0, ()), LEAF, ("b", 0, ()))))

    def test_leaves(self):
        told = put_at(TREE, (2,), OTHER)
        self.assertEqual(told, ("a", 5, (TREE[2][0], TREE[2][1], OTHER)))
        told = put_at(TREE, (0,), OTHER)
        self.assertEqual(told, ("a", 5, (OTHER, TREE[2][1], TREE[2][2])))
        told = put_at(line(3), (0, 0), OTHER)
        self.assertEqual(told, ("on", 0, (("on", 0, (OTHER,)),)))

    def test_all_else_stays_at_every_place(self):
        for tree in TREES:
            for place, here in walked(tree):
                told = put_at(tree, place, OTHER)
                self.assertTrue(self.is_of_tuples(told))
                self.assertEqual(at(told, place), OTHER)
                self.assertEqual(put_at(told, place, here), tree)

    def test_what_stands_there_already(self):
        for tree in TREES:
            for place, here in walked(tree):
                self.assertEqual(put_at(tree, place, here), tree)

    def test_no_such_place(self):
        for place in BAD_PLACES:
            with self.subTest(place=place):
                self.assertIsNone(put_at(TREE, place, OTHER))
        for place in [(0,), (-1,), (1,), (0, 0)]:
            self.assertIsNone(put_at(LEAF, place, OTHER))
        self.assertIsNone(put_at(line(40), (0,) * 40, OTHER))

    def test_a_wrong_number_at_any_spot(self):
        deep = comb(40)
        way = (1,) * 39
        for spot in range(39):
            for wrong in (-1, -2, -3, 3, 4):
                self.assertIsNone(put_at(deep, way[:spot] + (wrong,) + way[spot + 1:], OTHER))

    def test_a_truth_is_no_number(self):
        self.assertIsNone(put_at(TREE, (True,), OTHER))
        self.assertIsNone(put_at(TREE, (1, False), OTHER))

    def test_what_is_handed_in_stays(self):
        tree, place, other = copy.deepcopy((TREE, (1, 1), OTHER))
        first = put_at(tree, place, other)
        self.assertEqual((tree, place, other), (TREE, (1, 1), OTHER))
        self.assertEqual(put_at(tree, place, other), first)


if __name__ == "__main__":
    unittest.main()
