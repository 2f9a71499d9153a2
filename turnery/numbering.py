"""Turnings whose modes are numbered as they are met."""

from turnery.errors import TooGreat
from turnery.terms import calls_of, with_modes
from turnery.woods import own_wood


def as_met(wood, start, mode_by, most):
    """The turning with this start, its modes numbered as they are met, and a dict of their numbers.

    In the start and the rules calls may have anything for a mode that can be a dict's key; mode_by tells the tuple
    (kind, rules) of such a one. Refused with TooGreat where more than most modes are met.
    """
    numbers = {}
    number_calls(numbers, start, most)
    modes = []
    while len(modes) < len(numbers):
        mode = mode_by(list(numbers)[len(modes)])
        for rule in mode[1]:
            number_calls(numbers, rule, most)
        modes.append(mode)
    turning = (own_wood(wood), with_modes(start, numbers), [numbered_mode(mode, numbers) for mode in modes])
    return (turning, numbers)


def number_calls(numbers, term, most):
    for mode, branch in calls_of(term):
        if mode not in numbers:
            numbers[mode] = len(numbers)
    if len(numbers) > most:
        raise TooGreat(f"more than {most} modes are met")


def numbered_mode(mode, numbers):
    return (mode[0], [with_modes(rule, numbers) for rule in mode[1]])
