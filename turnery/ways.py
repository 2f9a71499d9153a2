"""Trees made along a way down, beside which there are only leaves."""

from turnery.trees import put_at
from turnery.woods import leaf_of


def leafy(wood, name, mark, kinds):
    """A tree of the row's whose branches are leaves."""
    return (name, mark, tuple([leaf_of(wood, kind) for kind in kinds]))


def row_above(wood):
    """The row of a name above a whole tree, so that a start is like a rule for it."""
    return ("", (wood[0][0],))


def tree_on(wood, way, row, mark):
    """The tree with this row, with the mark, at the end of the way.

    A way is a list or tuple of steps (row, mark, branch), the first one from the name above the tree.
    """
    tree = leafy(wood, row[0], mark, row[1])
    for above, its_mark, branch in reversed(way):
        tree = put_at(leafy(wood, above[0], its_mark, above[1]), (branch,), tree)
    return tree[2][0]
