"""One turning behind another, as one turning."""

from turnery.errors import Strays, TooGreat
from turnery.numbering import as_met
from turnery.straying import strays_at_all
from turnery.terms import is_call
from turnery.turnings import rule_of

MOST_MODES = 40
MOST_SIZE = 200
MOST_LEVELS = 30


def behind(one, other):
    """The turning that makes of each tree what the other one makes of what the one makes."""
    if strays_at_all(one, other[0]):
        raise Strays("the one has outcomes that are not of the other's wood")
    # The other's start is like a rule for a name above what the one makes.
    start = TermBehind(other).by_rule(other[1], ("put", "", False, 0, (one[1],)), MOST_LEVELS)
    return as_met(one[0], start, lambda pair: mode_behind(one, other, pair), MOST_MODES)[0]


def mode_behind(one, other, pair):
    """The tuple (kind, rules) of a pair of a mode of each, its calls having such pairs for modes."""
    mode = one[2][pair[0]]
    return (mode[0], [TermBehind(other).by_mode(pair[1], rule, MOST_LEVELS) for rule in mode[1]])


class TermBehind:
    """One term in the making, by rules of the other turning put on a term of the one.

    In its methods room tells how many levels what is made may have. What is too great is refused on the way, as it
    could take for ever to make.
    """

    def __init__(self, other):
        self.other = other
        self.left = MOST_SIZE

    def by_mode(self, mode, term, room):
        """The other's mode put on the term."""
        if is_call(term):
            self.take_one(room)
            return ("call", (term[1], mode), term[2])
        return self.by_rule(rule_of(self.other, mode, term[1]), term, room)

    def by_rule(self, rule, read, room):
        """What the other's rule, or a part of it, comes to where it reads this put of the one."""
        if is_call(rule):
            return self.by_mode(rule[1], read[4][rule[2]], room)
        self.take_one(room)
        add = rule[3] + read[3] if rule[2] else rule[3]
        parts = [self.by_rule(part, read, room - 1) for part in rule[4]]
        return ("put", rule[1], rule[2] and read[2], add, tuple(parts))

    def take_one(self, room):
        if room == 0:
            raise TooGreat(f"a term has more than {MOST_LEVELS} levels")
        if self.left == 0:
            raise TooGreat(f"a term has a size of more than {MOST_SIZE}")
        self.left -= 1
