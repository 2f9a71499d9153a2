"""Least turnings, in which modes that make the same are one, and how a turning's own modes stand to these."""

from turnery.commons import commons
from turnery.early import early_by, stump_term
from turnery.numbering import numbered_mode
from turnery.running import reached
from turnery.terms import calls_of, with_modes


def least(turning):
    """The turning that makes the same, by modes none of whose outcomes all begin alike and no two of which are."""
    return least_and_stand(turning)[0]


def stand(turning):
    """For each mode its common stump as a term, with calls by the least turning's modes; None for one not reached."""
    return least_and_stand(turning)[1]


def least_and_stand(turning):
    stumps = commons(turning)
    found = early_by(turning, stumps)
    classes = classes_of(found[0][2])
    numbers = dict([(pair, classes[number]) for pair, number in found[1].items()])
    stands = [None for mode in turning[2]]
    for mode in reached(turning):
        stands[mode] = with_modes(stump_term(stumps[mode], mode, (), 0), numbers)
    return (merged(found[0], classes), stands)


def merged(turning, classes):
    """The turning, its modes numbered as they are met, with one mode for each class.

    These are numbered as they are met, too: what the later modes of a class call, its first one calls.
    """
    modes = []
    for mode, number in zip(turning[2], classes):
        if number == len(modes):
            modes.append(numbered_mode(mode, classes))
    return (turning[0], with_modes(turning[1], classes), modes)


def classes_of(modes):
    """For each mode of an early turning the number of its class, which it shares with those that make the same.

    As none of their outcomes all begin alike, such modes put out the same in their rules, and call on the same
    branches modes that make the same. Classes are numbered by their first modes.
    """
    called = [called_by(rules) for kind, rules in modes]
    classes = []
    finer = numbers_of([form_of(mode, [0] * len(modes)) for mode in modes])
    while finer != classes:
        classes = finer
        finer = numbers_of([(number, by_classes(each, classes)) for number, each in zip(classes, called)])
    return classes


def called_by(rules):
    """The list of the modes that the rules call, as they are written."""
    told = []
    for rule in rules:
        told.extend([mode for mode, branch in calls_of(rule)])
    return told


def form_of(mode, numbers):
    """The mode, each mode that it calls giving way to its number, as a dict's key."""
    numbered = numbered_mode(mode, numbers)
    return (numbered[0], tuple(numbered[1]))


def by_classes(called, classes):
    return tuple([classes[mode] for mode in called])


def numbers_of(keys):
    """For each key a number, from 0 on as they come; the same keys have the same."""
    numbers = {}
    return [numbers.setdefault(key, len(numbers)) for key in keys]
