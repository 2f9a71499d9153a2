"""Papers, lists of terms by which two turnings make the same of every tree."""

from turnery.terms import calls_of, keeps_mark, rules_in, terms_in
from turnery.turnings import calls_fit, need_one_wood


def is_paper(one, terms, other):
    """Whether the list of terms and None, one for each mode of the one, is a paper for both turnings."""
    need_one_wood(one, other)
    if len(terms) != len(one[2]) or not all([term_fits(mode[0], term, other) for mode, term in zip(one[2], terms)]):
        return False
    told = [(mode, term) for mode, term in zip(one[2], terms) if term is not None]
    if not has_terms(one[1], terms) or not all([rules_have_terms(mode[1], terms) for mode, term in told]):
        return False
    if terms_in(one[1], terms) != other[1]:
        return False
    return all([rules_agree(mode, term, terms, other) for mode, term in told])


def term_fits(kind, term, other):
    """Whether this may stand in a paper for a mode of the kind."""
    return term is None or not keeps_mark(term) and calls_fit(other[2], term, (kind,))


def has_terms(term, terms):
    """Whether each mode that the term calls has one of the terms."""
    return all([terms[mode] is not None for mode, branch in calls_of(term)])


def rules_have_terms(rules, terms):
    return all([has_terms(rule, terms) for rule in rules])


def rules_agree(mode, term, terms, other):
    """Whether each rule of the mode, with the terms put in, is what the other's rules make of the mode's own term."""
    return all([terms_in(rule, terms) == rules_in(term, rules_for(other, mode[0], number))
                for number, rule in enumerate(mode[1])])


def rules_for(turning, kind, number):
    """By modes the rule for the kind's row of that number; None for modes of other kinds."""
    return [rules[number] if its_kind == kind else None for its_kind, rules in turning[2]]
