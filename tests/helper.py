"""What several test files need."""

import itertools

from turnery.turntexts import read_turning
from turnery.woods import read_wood

MOST = 10 ** 60 - 1
LIST = read_wood("list = nil | cons(num list); num = n")
ADDED = read_turning(LIST, "*q0; q list nil : nil; q list cons : cons(*m0 *q1); m num n : n=1")
# A name in two kinds; the rows of t are leaf, node, pair, those of u leaf, turn.
WOOD = read_wood("t = pair(u v) | node(t t u) | leaf; u = leaf | turn(t); v = end")
TURN = read_turning(WOOD, "; ".join([
    "top7(*p0 in(*s0 *p0))",
    "p t leaf : d-4", "p t node : e(*p0 *s1 f(*q2 *q2))", "p t pair : *v1",
    "q u leaf : a=", "q u turn : b(c=5(*p0) *s0)",
    "v v end : call(put=-3)",
    "s t pair : i(j(k(*q0)) *v1)", "s t node : *s1", "s t leaf : h=",
]))
LINE = read_wood("t = l | n(t)")
# Texts of trees that are not of LIST's first kind.
NO_LISTS = [
    "n", "list", "x", "con(n nil)",  # another name
    "nil(nil)", "nil(n)", "cons(n nil nil)", "cons(n nil n)",  # a branch more
    "cons", "cons(n)", "cons(nil)",  # a branch less
    "cons(nil nil)", "cons(n n)", "cons(nil n)", "cons(cons(n nil) nil)",  # a branch of another kind
]


def put(name, *parts, kept=False, add=0):
    return ("put", name, kept, add, parts)


def call(mode, branch=0):
    return ("call", mode, branch)


def line_term(many, end):
    """A term of so many levels, the end being one of them."""
    for _ in range(many - 1):
        end = put("a", end)
    return end


def wide_term(many, *ends):
    """A put with as many leaves as make its size, the ends counted by their number, come to so many."""
    return put("a", *[put("b")] * (many - 1 - len(ends)), *ends)


def line(many, name="n", end="l"):
    """A tree of so many levels with one branch each, and marks that rise from 1 at its end."""
    tree = (end, 1, ())
    for mark in range(2, many + 1):
        tree = (name, mark, (tree,))
    return tree


def grown_tree(chance, wood, kind, room):
    """Some tree of the kind, of at most so many levels."""
    rows = [row for row in dict(wood)[kind] if room > 1 or not row[1]]
    name, kinds = chance.choice(rows)
    return (name, chance.randrange(-9, 10), tuple(grown_tree(chance, wood, each, room - 1) for each in kinds))


def grown_term(chance, room, calls, keeps):
    """Some term, of at most so many levels, with calls out of a list of these."""
    if calls and (room == 1 or chance.random() < 0.4):
        return chance.choice(calls)
    many = chance.randrange(3) if room > 1 else 0
    parts = [grown_term(chance, room - 1, calls, keeps) for _ in range(many)]
    return put(chance.choice("abc"), *parts, kept=keeps and chance.random() < 0.5, add=chance.randrange(-2, 3))


def grown_turning(chance, wood, many, room):
    """Some turning of the wood, of so many modes, the first one of the wood's first kind."""
    kinds = [wood[0][0]] + [chance.choice(wood)[0] for _ in range(many - 1)]

    def calls_on(branches):
        return [call(mode, branch) for branch, kind in enumerate(branches)
                for mode, its_kind in enumerate(kinds) if its_kind == kind]

    modes = []
    for kind in kinds:
        rows = dict(wood)[kind]
        modes.append((kind, [grown_term(chance, room, calls_on(branches), True) for name, branches in rows]))
    return ([(kind, list(rows)) for kind, rows in wood], grown_term(chance, room, calls_on(kinds[:1]), False), modes)


def made(turning, term, mark, branches):
    """The term's outcome by the words of the document, for a name that is read with this mark and these branches."""
    if term[0] == "call":
        name, its_mark, its_branches = branches[term[2]]
        kind, rules = turning[2][term[1]]
        names = [row[0] for row in dict(turning[0])[kind]]
        return made(turning, rules[names.index(name)], its_mark, its_branches)
    parts = tuple(made(turning, part, mark, branches) for part in term[4])
    return (term[1], term[3] + mark if term[2] else term[3], parts)


# What alike_turning's rules put out where they aren't odd: by sorts, a name and the sorts of its parts.
PATTERN = {0: ("a", (1, 2)), 1: ("b", (2, 3)), 2: ("c", (3,)), 3: ("d", ())}


def alike_turning(chance, wood, many, odd):
    """Some turning of the wood, many of whose outcomes begin alike; odd tells how often a put is another one."""
    kinds = [wood[0][0]] + [chance.choice(wood)[0] for _ in range(many - 1)]
    sorts = [0] + [chance.randrange(len(PATTERN)) for _ in range(many - 1)]

    def term(branches, sort):
        calls = [call(mode, branch) for branch, kind in enumerate(branches) for mode in range(many)
                 if kinds[mode] == kind and sorts[mode] == sort]
        if calls and chance.random() < 0.6:
            return chance.choice(calls)
        if chance.random() < odd:
            return put(chance.choice("cxy"), kept=chance.random() < 0.5)
        name, parts = PATTERN[sort]
        return put(name, *[term(branches, part) for part in parts])

    modes = []
    for kind, sort in zip(kinds, sorts):
        modes.append((kind, [term(branches, sort) for name, branches in dict(wood)[kind]]))
    called = [call(mode) for mode in range(many) if kinds[mode] == kinds[0] and chance.random() < 0.7]
    start = call(0) if chance.random() < 0.3 else put("s", *called)
    return ([(kind, list(rows)) for kind, rows in wood], start, modes)


def one_odd(chance, turning):
    """The turning, in one of whose rules one put or call is another one."""
    def odd(term):
        if term[0] == "call" or not term[4] or chance.random() < 0.4:
            return put("x")
        number = chance.randrange(len(term[4]))
        return term[:4] + (term[4][:number] + (odd(term[4][number]),) + term[4][number + 1:],)

    wood, start, modes = turning
    told = [(kind, list(rules)) for kind, rules in modes]
    rules = chance.choice(told)[1]
    number = chance.randrange(len(rules))
    rules[number] = odd(rules[number])
    return (wood, start, told)


def all_trees(wood, kind, room, mark):
    """All trees of the kind of at most so many levels, all with the one mark."""
    told = []
    for name, kinds in dict(wood)[kind]:
        if room > 1 or not kinds:
            below = [all_trees(wood, each, room - 1, mark) for each in kinds]
            told += [(name, mark, branches) for branches in itertools.product(*below)]
    return told


def marked_trees(wood, kind, room):
    """Trees among which are two that a mode makes unlike at a place, where any two of so few levels are.

    Other marks are not needed: where a mark is kept, that of 0 or that of 1 makes it unlike another one.
    """
    return all_trees(wood, kind, room, 0) + all_trees(wood, kind, room, 1)


def ring(many, leaf=put("a"), last=put("b"), node=call):
    """A turning of LINE's whose modes call one another in a ring, the last of which makes something else of a leaf.

    So with the first mode a tree of as many levels as there are modes is the first to come to something else.
    """
    ends = [leaf] * (many - 1) + [last]
    return (LINE, call(0), [("t", [end, node((mode + 1) % many, 0)]) for mode, end in enumerate(ends)])
