"""Turnings, tuples (wood, start, modes), and what makes them sound."""

from turnery.errors import OtherWood
from turnery.terms import calls_of, keeps_mark
from turnery.woods import rows_of


def rule_of(turning, mode, name):
    """The mode's rule for the row of that name, or None where the mode's kind has no such row."""
    kind = turning[2][mode][0]
    rules = turning[2][mode][1]
    for row, rule in zip(rows_of(turning[0], kind), rules):
        if row[0] == name:
            return rule
    return None


def is_sound(wood, start, modes):
    """Whether these are a turning."""
    if not all([rules_fit(wood, modes, kind, rules) for kind, rules in modes]):
        return False
    # The one branch of the start is the whole tree, which is of the wood's first kind.
    return not keeps_mark(start) and calls_fit(modes, start, (wood[0][0],))


def rules_fit(wood, modes, kind, rules):
    rows = rows_of(wood, kind)
    # A kind that isn't told has no rows, and would else go with a mode without rules.
    if len(rows) == 0 or len(rules) != len(rows):
        return False
    return all([calls_fit(modes, rule, row[1]) for row, rule in zip(rows, rules)])


def calls_fit(modes, term, kinds):
    """Whether each call of the term is on a branch and by a mode of its kind, kinds being the branches'."""
    return all([call_fits(modes, mode, branch, kinds) for mode, branch in calls_of(term)])


def call_fits(modes, mode, branch, kinds):
    # Python would take -1 for the last mode or branch.
    if not 0 <= mode < len(modes) or not 0 <= branch < len(kinds):
        return False
    return modes[mode][0] == kinds[branch]


def need_one_wood(one, other):
    """Refuses turnings whose woods are not the same."""
    if one[0] != other[0]:
        raise OtherWood("the turnings are of unlike woods")
