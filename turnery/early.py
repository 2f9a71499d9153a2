"""Early turnings, that put out as soon as can be what outcomes have in common."""

from turnery.commons import commons
from turnery.errors import TooGreat
from turnery.numbering import as_met
from turnery.stumps import is_open, stump_at
from turnery.terms import down_to, is_call, term_levels, term_size, with_parts

MOST_MODES = 200
MOST_SIZE = 400
MOST_LEVELS = 60


def early(turning):
    """The turning that makes the same, by modes none of whose outcomes all begin alike."""
    return early_by(turning, commons(turning))[0]


def early_by(turning, stumps):
    """The early turning by these common stumps, and a dict of its modes' numbers by pairs of a mode and a place."""
    start = early_term(turning[1], (), stumps)
    return as_met(turning[0], start, lambda pair: early_mode(turning, stumps, pair), MOST_MODES)


def early_mode(turning, stumps, pair):
    """The tuple (kind, rules) of a pair of a mode and a place, its calls having such pairs for modes."""
    mode = turning[2][pair[0]]
    return (mode[0], [early_term(rule, pair[1], stumps) for rule in mode[1]])


def early_term(term, place, stumps):
    """What stands at the place in the term with the stumps put in."""
    found = down_to(term, place)
    told = stumps_in(found[0], found[1], stumps)
    if term_size(told) > MOST_SIZE:
        raise TooGreat(f"a term has a size of more than {MOST_SIZE}")
    if term_levels(told) > MOST_LEVELS:
        raise TooGreat(f"a term has more than {MOST_LEVELS} levels")
    return told


def stumps_in(term, place, stumps):
    """The put with the stumps put in, or what stands at the place in the stump of the call's mode."""
    if is_call(term):
        return stump_term(stump_at(stumps[term[1]], place), term[1], place, term[2])
    return with_parts(term, [stumps_in(part, (), stumps) for part in term[4]])


def stump_term(stump, mode, place, branch):
    """The stump as a term, which at its open places calls the pairs of the mode and these, place being its own."""
    if is_open(stump):
        return ("call", (mode, place), branch)
    parts = []
    for number, part in enumerate(stump[3]):
        parts.append(stump_term(part, mode, place + (number,), branch))
    return ("put", stump[1], False, stump[2], tuple(parts))
