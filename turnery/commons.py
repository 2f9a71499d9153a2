"""The common stumps of a turning's modes, with which all their outcomes begin."""

from turnery.stumps import OPEN, met
from turnery.terms import calls_of, is_call
from turnery.woods import rows_of


def commons(turning):
    """For each mode the stump with which its outcomes begin, of all trees of its kind."""
    stages = Stages(turning)
    while not stages.is_last():
        stages.go_on()
    return stages.stumps


def commons_within(turning, many):
    """For each mode the stump with which its outcomes begin, of all trees of its kind of at most so many levels."""
    return stages_within(turning, many)[-1]


def stages_within(turning, many):
    """The common stumps for 1 level, for 2 and so on, up to so many, or up to those that are the same ever after."""
    stages = Stages(turning)
    told = [stages.stumps]
    while len(told) < many and not stages.is_last():
        stages.go_on()
        told.append(stages.stumps)
    return told


class Stages:
    """The common stumps for trees of at most one level, and then for one level more each time."""

    def __init__(self, turning):
        self.modes = turning[2]
        self.callers = callers_by_modes(turning[2])
        self.stumps = [leaf_stump(turning[0], kind, rules) for kind, rules in turning[2]]
        # The rules, as (mode, number), by which a stump may be another one with one level more.
        self.waiting = all_rules(turning[2])

    def is_last(self):
        return len(self.waiting) == 0

    def go_on(self):
        stumps = list(self.stumps)
        for mode, number in self.waiting:
            stumps[mode] = met(stumps[mode], rule_stump(self.modes[mode][1][number], self.stumps))
        callers = {}
        for mode, stump in enumerate(stumps):
            if stump != self.stumps[mode]:
                callers.update(self.callers[mode])
        self.stumps = stumps
        self.waiting = sorted(callers)


def all_rules(modes):
    """Each rule of the modes as (mode, number)."""
    told = []
    for mode in range(len(modes)):
        told.extend([(mode, number) for number in range(len(modes[mode][1]))])
    return told


def callers_by_modes(modes):
    """For each mode a dict whose keys are the rules that call it."""
    told = [{} for mode in modes]
    for mode, number in all_rules(modes):
        for called, branch in calls_of(modes[mode][1][number]):
            told[called][(mode, number)] = True
    return told


def leaf_stump(wood, kind, rules):
    """The common stump of a mode for trees of one level."""
    leaves = [rule_stump(rule, []) for row, rule in zip(rows_of(wood, kind), rules) if len(row[1]) == 0]
    stump = leaves[0]
    for other in leaves:
        stump = met(stump, other)
    return stump


def rule_stump(rule, stumps):
    """The rule as a stump, each call giving way to its mode's one of the stumps."""
    if is_call(rule):
        return stumps[rule[1]]
    # With another mark on what is read this put has another mark, too.
    if rule[2]:
        return OPEN
    return ("put", rule[1], rule[3], tuple([rule_stump(part, stumps) for part in rule[4]]))
