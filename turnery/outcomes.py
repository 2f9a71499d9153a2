"""What is made of trees by a turning's rules, reckoned from the leaves up, of each branch in each mode once."""

from turnery.terms import calls_of, is_call
from turnery.turnings import rule_of


def outcome(turning, term, tree, make):
    """What make tells of the term's outcome, all of whose calls are on the tree, as on a branch 0.

    make(put, mark, parts) tells it of one put, mark being that of what is read, parts the list of what it told of
    the put's parts.
    """
    return reckoned(turning, {0: term}, above(tree), make)[0]


def above(tree):
    """A tree whose one branch is the tree, so that a start is like a rule for its name."""
    return ("", 0, (tree,))


def reckoned(turning, rules, tree, make):
    """What make tells of the outcomes of these rules, a dict by modes, on the tree: a dict by modes, too."""
    below = []
    for branch, called in zip(tree[2], called_below(turning, rules, tree)):
        below.append(reckoned(turning, called, branch, make))
    return dict([(mode, filled(rule, tree[1], below, make)) for mode, rule in rules.items()])


def called_below(turning, rules, tree):
    """For each branch of the tree the rules that are needed there, a dict by modes."""
    needed = [{} for branch in tree[2]]
    for rule in rules.values():
        for mode, branch in calls_of(rule):
            if mode not in needed[branch]:
                needed[branch][mode] = rule_of(turning, mode, tree[2][branch][0])
    return needed


def filled(term, mark, below, make):
    if is_call(term):
        return below[term[2]][term[1]]
    return make(term, mark, [filled(part, mark, below, make) for part in term[4]])
