"""Terms, tuples ("put", name, kept, add, parts) and ("call", mode, branch), of which rules are made."""


def is_call(term):
    return term[0] == "call"


def term_size(term):
    """The number of the term's puts and calls."""
    if is_call(term):
        return 1
    return 1 + sum([term_size(part) for part in term[4]])


def term_levels(term):
    """The number of puts and calls on the term's longest way down."""
    if is_call(term):
        return 1
    return 1 + max([term_levels(part) for part in term[4]], default=0)


def calls_of(term):
    """The list of the term's calls as tuples (mode, branch), as they are written."""
    if is_call(term):
        return [(term[1], term[2])]
    told = []
    for part in term[4]:
        told.extend(calls_of(part))
    return told


def placed_calls(term):
    """The list of the term's calls as tuples (place, mode, branch), as they are written."""
    if is_call(term):
        return [((), term[1], term[2])]
    told = []
    for number, part in enumerate(term[4]):
        told.extend([((number,) + place, mode, branch) for place, mode, branch in placed_calls(part)])
    return told


def down_to(term, place):
    """The put at the place and (), or the call on the way to it and what is left of the place there."""
    here = term
    for gone, number in enumerate(place):
        if is_call(here):
            return (here, place[gone:])
        here = here[4][number]
    return (here, ())


def mark_put(term, mark):
    """The mark with which the put is put out, where what is read has the mark that is handed in."""
    return term[3] + mark if term[2] else term[3]


def put_head(term, mark):
    """(name, mark, number of branches) that the put puts out, where what is read has the mark that is handed in."""
    return (term[1], mark_put(term, mark), len(term[4]))


def keeps_mark(term):
    """Whether some put of the term keeps the mark of what is read."""
    if is_call(term):
        return False
    return term[2] or any([keeps_mark(part) for part in term[4]])


def terms_in(term, terms):
    """The term, each call giving way to its mode's term, all of whose calls then are on the call's branch."""
    if is_call(term):
        return on_branch(terms[term[1]], term[2])
    return with_parts(term, [terms_in(part, terms) for part in term[4]])


def rules_in(term, terms):
    """The term, each call giving way to its mode's term as it is."""
    if is_call(term):
        return terms[term[1]]
    return with_parts(term, [rules_in(part, terms) for part in term[4]])


def with_modes(term, numbers):
    """The term, what each call has for its mode giving way to its number, out of a dict (or a list)."""
    if is_call(term):
        return ("call", numbers[term[1]], term[2])
    return with_parts(term, [with_modes(part, numbers) for part in term[4]])


def on_branch(term, branch):
    if is_call(term):
        return ("call", term[1], branch)
    return with_parts(term, [on_branch(part, branch) for part in term[4]])


def with_parts(term, parts):
    return ("put", term[1], term[2], term[3], tuple(parts))


def tree_term(tree):
    """The term that puts out the tree, whatever is read."""
    return ("put", tree[0], False, tree[1], tuple([tree_term(branch) for branch in tree[2]]))
