"""Turnings put to trees."""

from turnery.counting import many_by, tall_by
from turnery.errors import TooGreat
from turnery.outcomes import outcome
from turnery.terms import calls_of, mark_put
from turnery.woods import need_in, need_of

MOST_NAMES = 400
MOST_LEVELS = 60


def reached(turning):
    """The rising list of the modes that the start or a rule of a reached mode calls."""
    found = {}
    waiting = [turning[1]]
    while len(waiting) > 0:
        term = waiting.pop()
        for mode, branch in calls_of(term):
            if mode not in found:
                found[mode] = True
                waiting.extend(turning[2][mode][1])
    return sorted(found)


def turned(turning, tree):
    """What the turning makes of the tree."""
    need_in(turning[0], tree)
    return turned_by(turning, turning[1], tree)


def turned_in(turning, mode, tree):
    """What the mode makes of the tree."""
    need_of(turning[0], turning[2][mode][0], tree)
    return turned_by(turning, ("call", mode, 0), tree)


def turned_by(turning, term, tree):
    # Counted first, as what is too great could take for ever to make.
    if many_by(turning, term, tree) > MOST_NAMES:
        raise TooGreat(f"the outcome has more than {MOST_NAMES} names")
    if tall_by(turning, term, tree) > MOST_LEVELS:
        raise TooGreat(f"the outcome has more than {MOST_LEVELS} levels")
    return outcome(turning, term, tree, lambda put, mark, parts: (put[1], mark_put(put, mark), tuple(parts)))
