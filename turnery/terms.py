"""Terms, tuples ("put", name, kept, add, parts) and ("call", mode, branch), of which rules are made."""


def is_call(term):
    return term[0] == "call"


def term_size(term):
    """The number of the term's puts and calls."""
    if is_call(term):
        return 1
    return 1 + sum([term_size(part) for part in term[4]])


def calls_of(term):
    """The list of the term's calls as tuples (mode, branch), as they are written."""
    if is_call(term):
        return [(term[1], term[2])]
    told = []
    for part in term[4]:
        told.extend(calls_of(part))
    return told


def mark_put(term, mark):
    """The mark with which the put is put out, where what is read has the mark that is handed in."""
    return term[3] + mark if term[2] else term[3]


def keeps_mark(term):
    """Whether some put of the term keeps the mark of what is read."""
    if is_call(term):
        return False
    return term[2] or any([keeps_mark(part) for part in term[4]])


def terms_in(term, terms):
    """The term, each call giving way to its mode's term, all of whose calls then are on the call's branch."""
    if is_call(term):
        return on_branch(terms[term[1]], term[2])
    return with_parts(term, [terms_in(part, terms) for part in term[4]])


def rules_in(term, terms):
    """The term, each call giving way to its mode's term as it is."""
    if is_call(term):
        return terms[term[1]]
    return with_parts(term, [rules_in(part, terms) for part in term[4]])


def on_branch(term, branch):
    if is_call(term):
        return ("call", term[1], branch)
    return with_parts(term, [on_branch(part, branch) for part in term[4]])


def with_parts(term, parts):
    return ("put", term[1], term[2], term[3], tuple(parts))
