"""What is told of outcomes without making them, however great they are."""

from turnery.outcomes import above, outcome
from turnery.terms import is_call, put_head
from turnery.trees import has_number
from turnery.turnings import rule_of
from turnery.woods import need_in, need_of


def many(turning, tree):
    """The number of names of what the turning makes of the tree."""
    need_in(turning[0], tree)
    return many_by(turning, turning[1], tree)


def tall(turning, tree):
    """The number of levels of what the turning makes of the tree."""
    need_in(turning[0], tree)
    return tall_by(turning, turning[1], tree)


def many_by(turning, term, tree):
    return outcome(turning, term, tree, lambda put, mark, parts: 1 + sum(parts))


def tall_by(turning, term, tree):
    return outcome(turning, term, tree, lambda put, mark, parts: 1 + max(parts, default=0))


def seen(turning, tree, place):
    """(name, mark, number of branches) at the place of what the turning makes of the tree, or None."""
    need_in(turning[0], tree)
    return seen_by(turning, turning[1], tree, place)


def seen_in(turning, mode, tree, place):
    """(name, mark, number of branches) at the place of what the mode makes of the tree, or None."""
    need_of(turning[0], turning[2][mode][0], tree)
    return seen_by(turning, ("call", mode, 0), tree, place)


def seen_by(turning, term, tree, place):
    here = first_put(turning, term, above(tree))
    for number in place:
        parts = here[0][4]
        if not has_number(parts, number):
            return None
        here = first_put(turning, parts[number], here[1])
    return put_head(here[0], here[1][1])


def first_put(turning, term, tree):
    """The put with which the term's outcome begins, and the tree that is read there."""
    rule = term
    read = tree
    while is_call(rule):
        mode = rule[1]
        read = read[2][rule[2]]
        rule = rule_of(turning, mode, read[0])
    return (rule, read)
