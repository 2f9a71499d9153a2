"""Stumps, tuples ("open",) and ("put", name, mark, parts), with which trees begin."""

OPEN = ("open",)


def is_open(stump):
    return stump[0] == "open"


def head(stump):
    """(name, mark, number of parts) of a stump that isn't open."""
    return (stump[1], stump[2], len(stump[3]))


def stump_of(tree):
    """The stump without open places with which the tree begins."""
    return ("put", tree[0], tree[1], tuple([stump_of(branch) for branch in tree[2]]))


def begins(stump, tree):
    """Whether the tree begins with the stump."""
    if is_open(stump):
        return True
    if head(stump) != (tree[0], tree[1], len(tree[2])):
        return False
    return all([begins(part, branch) for part, branch in zip(stump[3], tree[2])])


def opens(stump):
    """The places of the stump's open ones, in the order of places."""
    if is_open(stump):
        return [()]
    told = []
    for number, part in enumerate(stump[3]):
        told.extend([(number,) + place for place in opens(part)])
    return told


def met(one, other):
    """The stump with which both begin, open only where they are unlike or one of them is open."""
    if is_open(one) or is_open(other) or head(one) != head(other):
        return OPEN
    return ("put", one[1], one[2], tuple([met(part, beside) for part, beside in zip(one[3], other[3])]))


def stump_at(stump, place):
    """The stump at a place that the stump has."""
    here = stump
    for number in place:
        here = here[3][number]
    return here
