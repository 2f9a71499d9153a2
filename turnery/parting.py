"""Two turnings held against one another."""

from turnery.errors import TooGreat
from turnery.least import least_and_stand
from turnery.meetings import Meetings
from turnery.turnings import need_one_wood

MOST_LEVELS = 40


def held(one, other):
    """("same", least, stand of the one, stand of the other), or ("parted", tree, place)."""
    need_one_wood(one, other)
    told = least_and_stand(one)
    beside = least_and_stand(other)
    if told[0] == beside[0]:
        return ("same", told[0], told[1], beside[1])
    return ("parted",) + parted(told[0], beside[0])


def parted(one, other):
    """A tree of as few levels as can be of which both make unlike trees, and a place at which these are unlike."""
    meetings = Meetings(one, other)
    found = meetings.begin()
    for level in range(2, MOST_LEVELS + 1):
        if found is None:
            found = meetings.go_on()
    if found is None:
        raise TooGreat(f"more than {MOST_LEVELS} levels are needed")
    return found
