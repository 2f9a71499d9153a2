"""What a tree may have come from by a turning."""

from turnery.errors import TooGreat
from turnery.terms import is_call, mark_put
from turnery.trees import levels
from turnery.turnings import rule_of
from turnery.woods import row_of, rows_of

MOST_WANTS = 100
MOST_LEVELS = 40


def wanted(turning, tree):
    """The want that the start hands on where it goes onto the tree, or None."""
    fit = Fit((turning[0][0][0],))
    return fit.handed()[0] if fit.goes_onto(turning[1], tree) else None


def handed_on(turning, want, name):
    """The list of wants that the row of that name hands on, or None where it doesn't go with the want."""
    fit = fit_of(turning, want, name)
    return None if fit is None else fit.handed()


def source(turning, tree):
    """("from", a tree of as few levels as can be of which the turning makes this one), or ("none", wants)."""
    first = wanted(turning, tree)
    if first is None:
        return ("none", [])
    arising = Arising(turning, first)
    trees = arising.trees()
    if 0 not in trees:
        return ("none", [want for number, want in enumerate(arising.wants) if number not in trees])
    if levels(trees[0]) > MOST_LEVELS:
        raise TooGreat(f"more than {MOST_LEVELS} levels are needed")
    return ("from", trees[0])


def fit_of(turning, want, name):
    """The row of that name gone onto the trees of the want, or None where it doesn't go, or there is no such row."""
    kinds = row_of(turning[0], want[0], name)
    if kinds is None:
        return None
    fit = Fit(kinds)
    for mode, tree in want[1]:
        if not fit.goes_onto(rule_of(turning, mode, name), tree):
            return None
    return fit


class Fit:
    """A row whose rules go onto trees one by one, with what they need of the row's mark and of its branches."""

    def __init__(self, kinds):
        self.kinds = kinds
        # None as long as any one will do.
        self.mark = None
        # For each branch a dict of the wanted trees by modes.
        self.needed = [{} for kind in kinds]

    def goes_onto(self, term, tree):
        """Whether the term goes onto the tree along with those that went before."""
        if is_call(term):
            return self.needed[term[2]].setdefault(term[1], tree) == tree
        if term[1] != tree[0] or len(term[4]) != len(tree[2]) or not self.mark_goes(term, tree[1]):
            return False
        return all([self.goes_onto(part, branch) for part, branch in zip(term[4], tree[2])])

    def mark_goes(self, term, mark):
        if term[2] and self.mark is None:
            self.mark = mark - term[3]
        return mark_put(term, self.mark) == mark

    def handed(self):
        """The list of the wants for the row's branches."""
        return [(kind, pairs_of(trees)) for kind, trees in zip(self.kinds, self.needed)]


def pairs_of(trees):
    """The list of the modes with their trees, by rising modes."""
    return [(mode, trees[mode]) for mode in sorted(trees)]


class Arising:
    """The wants that arise from a first one, in their order, and the rows that go with each."""

    def __init__(self, turning, first):
        self.turning = turning
        self.wants = []
        self.numbers = {}
        self.number_of(first)
        # For each want the list of its rows as tuples (name, mark, numbers of the wants that are handed on).
        self.ways = []
        while len(self.ways) < len(self.wants):
            self.ways.append(self.ways_of(self.wants[len(self.ways)]))

    def ways_of(self, want):
        told = []
        for name, kinds in rows_of(self.turning[0], want[0]):
            fit = fit_of(self.turning, want, name)
            if fit is not None:
                mark = 0 if fit.mark is None else fit.mark
                told.append((name, mark, [self.number_of(each) for each in fit.handed()]))
        return told

    def number_of(self, want):
        """The want's number; a new one where it arises now."""
        key = (want[0], tuple(want[1]))
        if key not in self.numbers:
            if len(self.wants) == MOST_WANTS:
                raise TooGreat(f"more than {MOST_WANTS} wants arise")
            self.numbers[key] = len(self.wants)
            self.wants.append(want)
        return self.numbers[key]

    def trees(self):
        """By wants' numbers, trees that meet them, of as few levels as can be; none for what no tree meets."""
        trees = {}
        more = self.trees_above(trees)
        while len(more) > 0:
            trees.update(more)
            more = self.trees_above(trees)
        return trees

    def trees_above(self, trees):
        """Trees that meet wants which those handed in don't, with these for their branches."""
        told = {}
        for number, ways in enumerate(self.ways):
            for name, mark, below in ways:
                if number not in trees and number not in told and all([each in trees for each in below]):
                    told[number] = (name, mark, tuple([trees[each] for each in below]))
        return told
