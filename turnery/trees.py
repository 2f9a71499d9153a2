"""Trees, tuples (name, mark, branches), and the places in them."""


def size(tree):
    """The number of the tree's names."""
    return 1 + sum([size(branch) for branch in tree[2]])


def levels(tree):
    """The number of names on the tree's longest way down."""
    return 1 + max([levels(branch) for branch in tree[2]], default=0)


def places(tree):
    """All places of the tree, each ahead of those in its branches."""
    told = [()]
    for number, branch in enumerate(tree[2]):
        told.extend([(number,) + place for place in places(branch)])
    return told


def at(tree, place):
    """The tree that stands at the place, or None where there is no such place."""
    here = tree
    for number in place:
        if not has_number(here[2], number):
            return None
        here = here[2][number]
    return here


def put_at(tree, place, other):
    """The tree with the other one at the place, or None where there is no such place."""
    if at(tree, place) is None:
        return None
    return put_below(tree, place, other)


def has_number(branches, number):
    # Python would take -1 for the last branch and True for the second one.
    if isinstance(number, bool):
        return False
    return 0 <= number < len(branches)


def put_below(tree, place, other):
    if len(place) == 0:
        return other
    number = place[0]
    branches = tree[2]
    changed = put_below(branches[number], place[1:], other)
    return (tree[0], tree[1], branches[:number] + (changed,) + branches[number + 1:])
