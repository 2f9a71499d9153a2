"""Trees of which a mode makes unlike outcomes."""

from turnery.commons import commons, stages_within
from turnery.counting import seen_in
from turnery.errors import TooGreat
from turnery.stumps import head, is_open, opens, stump_at
from turnery.terms import down_to, is_call, placed_calls, put_head
from turnery.trees import put_at
from turnery.turnings import rule_of
from turnery.ways import leafy
from turnery.woods import leaf_of, row_of, rows_of

MOST_LEVELS = 40


def split(turning, mode, place):
    """Two trees of which the mode makes what is unlike at the place, or None for one that isn't always open."""
    if place not in opens(commons(turning)[mode]):
        return None
    stages = stages_within(turning, MOST_LEVELS)
    for many, stumps in enumerate(stages, start=1):
        if is_open(stump_at(stumps[mode], place)):
            return unlike_pair(turning, stages[:many], mode, place)
    raise TooGreat(f"more than {MOST_LEVELS} levels are needed")


def heeded(turning, mode, name, branch):
    """Two trees that are the same but for the branch, and a place at which their outcomes are unlike; or None."""
    kinds = row_of(turning[0], turning[2][mode][0], name)
    if kinds is None:
        return None
    # Of a branch that the row hasn't there are no calls, and so nothing is told of it.
    calls = [call for call in placed_calls(rule_of(turning, mode, name)) if call[2] == branch]
    # The root takes one of the levels.
    stages = stages_within(turning, MOST_LEVELS - 1)
    for many, stumps in enumerate(stages, start=1):
        found = first_open(stumps, calls)
        if found is not None:
            pair = unlike_pair(turning, stages[:many], found[1], found[2])
            return with_each(leafy(turning[0], name, 0, kinds), branch, pair) + (found[0] + found[2],)
    if first_open(commons(turning), calls) is not None:
        raise TooGreat(f"more than {MOST_LEVELS} levels are needed")
    return None


def first_open(stumps, calls):
    """The first of the calls whose mode's stump has an open place, as (the call's place, mode, open place); or None."""
    for above, mode, branch in calls:
        for place in opens(stumps[mode]):
            return (above, mode, place)
    return None


def with_each(tree, branch, others):
    """The tree with each of the others for its branch of that number."""
    return tuple([put_at(tree, (branch,), other) for other in others])


def unlike_pair(turning, stages, mode, place):
    """Two trees, of no more levels than there are stages, of which the last has the place open for the mode."""
    leaf = leaf_of(turning[0], turning[2][mode][0])
    return (leaf, unlike_tree(turning, stages, mode, place, seen_in(turning, mode, leaf, place)))


def unlike_tree(turning, stages, mode, place, seen):
    """A tree, of no more levels than there are stages, of which the mode makes what isn't seen at the place.

    There is one: at the place the mode's stump of the last stage is open, or isn't what is seen.
    """
    kind = turning[2][mode][0]
    for row, rule in zip(rows_of(turning[0], kind), turning[2][mode][1]):
        if len(row[1]) == 0 or len(stages) > 1:
            tree = unlike_by_row(turning, stages[:-1], row, down_to(rule, place), seen)
            if tree is not None:
                return tree
    return None


def unlike_by_row(turning, stages, row, found, seen):
    """Such a tree by this row, or None; stages are those for its branches, found what its rule has at the place."""
    term = found[0]
    if not is_call(term):
        mark = unlike_mark(term, seen)
        return None if mark is None else leafy(turning[0], row[0], mark, row[1])
    if not is_unlike(stump_at(stages[-1][term[1]], found[1]), seen):
        return None
    branch = unlike_tree(turning, stages, term[1], found[1], seen)
    return put_at(leafy(turning[0], row[0], 0, row[1]), (term[2],), branch)


def is_unlike(stump, seen):
    return is_open(stump) or head(stump) != seen


def unlike_mark(put, seen):
    """A mark with which the put puts out what isn't seen, or None where it does so with none."""
    for mark in [0, 1]:
        if put_head(put, mark) != seen:
            return mark
    return None
