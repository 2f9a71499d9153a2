"""What several test files need."""

import copy
import itertools

from turnery.counting import many as many_names
from turnery.counting import seen, tall
from turnery.running import turned
from turnery.trees import levels, places, size
from turnery.turnings import is_sound
from turnery.turntexts import read_turning, show_turning
from turnery.woods import read_wood

MOST = 10 ** 60 - 1
LIST = read_wood("list = nil | cons(num list); num = n")
ADDED = read_turning(LIST, "*q0; q list nil : nil; q list cons : cons(*m0 *q1); m num n : n=1")
# A name in two kinds; the rows of t are leaf, node, pair, those of u leaf, turn.
WOOD = read_wood("t = pair(u v) | node(t t u) | leaf; u = leaf | turn(t); v = end")
TURN = read_turning(WOOD, "; ".join([
    "top7(*p0 in(*s0 *p0))",
    "p t leaf : d-4", "p t node : e(*p0 *s1 f(*q2 *q2))", "p t pair : *v1",
    "q u leaf : a=", "q u turn : b(c=5(*p0) *s0)",
    "v v end : call(put=-3)",
    "s t pair : i(j(k(*q0)) *v1)", "s t node : *s1", "s t leaf : h=",
]))
LINE = read_wood("t = l | n(t)")
# Texts of trees that are not of LIST's first kind.
NO_LISTS = [
    "n", "list", "x", "con(n nil)",  # another name
    "nil(nil)", "nil(n)", "cons(n nil nil)", "cons(n nil n)",  # a branch more
    "cons", "cons(n)", "cons(nil)",  # a branch less
    "cons(nil nil)", "cons(n n)", "cons(nil n)", "cons(cons(n nil) nil)",  # a branch of another kind
]


def put(name, *parts, kept=False, add=0):
    return ("put", name, kept, add, parts)


def call(mode, branch=0):
    return ("call", mode, branch)


def line_term(many, end):
    """A term of so many levels, the end being one of them."""
    for _ in range(many - 1):
        end = put("a", end)
    return end


def wide_term(many, *ends):
    """A put with as many leaves as make its size, the ends counted by their number, come to so many."""
    return put("a", *[put("b")] * (many - 1 - len(ends)), *ends)


def line(many, name="n", end="l"):
    """A tree of so many levels with one branch each, and marks that rise from 1 at its end."""
    tree = (end, 1, ())
    for mark in range(2, many + 1):
        tree = (name, mark, (tree,))
    return tree


def grown_tree(chance, wood, kind, room):
    """Some tree of the kind, of at most so many levels."""
    rows = [row for row in dict(wood)[kind] if room > 1 or not row[1]]
    name, kinds = chance.choice(rows)
    return (name, chance.randrange(-9, 10), tuple(grown_tree(chance, wood, each, room - 1) for each in kinds))


def grown_term(chance, room, calls, keeps):
    """Some term, of at most so many levels, with calls out of a list of these."""
    if calls and (room == 1 or chance.random() < 0.4):
        return chance.choice(calls)
    many = chance.randrange(3) if room > 1 else 0
    parts = [grown_term(chance, room - 1, calls, keeps) for _ in range(many)]
    return put(chance.choice("abc"), *parts, kept=keeps and chance.random() < 0.5, add=chance.randrange(-2, 3))


def grown_turning(chance, wood, many, room):
    """Some turning of the wood, of so many modes, the first one of the wood's first kind."""
    kinds = [wood[0][0]] + [chance.choice(wood)[0] for _ in range(many - 1)]

    def calls_on(branches):
        return [call(mode, branch) for branch, kind in enumerate(branches)
                for mode, its_kind in enumerate(kinds) if its_kind == kind]

    modes = []
    for kind in kinds:
        rows = dict(wood)[kind]
        modes.append((kind, [grown_term(chance, room, calls_on(branches), True) for name, branches in rows]))
    return ([(kind, list(rows)) for kind, rows in wood], grown_term(chance, room, calls_on(kinds[:1]), False), modes)


def made(turning, term, mark, branches):
    """The term's outcome by the words of the document, for a name that is read with this mark and these branches."""
    if term[0] == "call":
        name, its_mark, its_branches = branches[term[2]]
        kind, rules = turning[2][term[1]]
        names = [row[0] for row in dict(turning[0])[kind]]
        return made(turning, rules[names.index(name)], its_mark, its_branches)
    parts = tuple(made(turning, part, mark, branches) for part in term[4])
    return (term[1], term[3] + mark if term[2] else term[3], parts)


# What alike_turning's rules put out where they aren't odd: by sorts, a name and the sorts of its parts.
PATTERN = {0: ("a", (1, 2)), 1: ("b", (2, 3)), 2: ("c", (3,)), 3: ("d", ())}


def alike_turning(chance, wood, many, odd, calling=0.6):
    """Some turning of the wood, many of whose outcomes begin alike.

    odd tells how often a put is another one, calling how often there is a call where there could be one.
    """
    kinds = [wood[0][0]] + [chance.choice(wood)[0] for _ in range(many - 1)]
    sorts = [0] + [chance.randrange(len(PATTERN)) for _ in range(many - 1)]

    def term(branches, sort):
        calls = [call(mode, branch) for branch, kind in enumerate(branches) for mode in range(many)
                 if kinds[mode] == kind and sorts[mode] == sort]
        if calls and chance.random() < calling:
            return chance.choice(calls)
        if chance.random() < odd:
            return put(chance.choice("cxy"), kept=chance.random() < 0.5)
        name, parts = PATTERN[sort]
        return put(name, *[term(branches, part) for part in parts])

    modes = []
    for kind, sort in zip(kinds, sorts):
        modes.append((kind, [term(branches, sort) for name, branches in dict(wood)[kind]]))
    called = [call(mode) for mode in range(many) if kinds[mode] == kinds[0] and chance.random() < 0.7]
    start = call(0) if chance.random() < 0.3 else put("s", *called)
    return ([(kind, list(rows)) for kind, rows in wood], start, modes)


def one_odd(chance, turning):
    """The turning, in one of whose rules one put or call is another one."""
    def odd(term):
        if term[0] == "call" or not term[4] or chance.random() < 0.4:
            return put("x")
        number = chance.randrange(len(term[4]))
        return term[:4] + (term[4][:number] + (odd(term[4][number]),) + term[4][number + 1:],)

    wood, start, modes = turning
    told = [(kind, list(rules)) for kind, rules in modes]
    rules = chance.choice(told)[1]
    number = chance.randrange(len(rules))
    rules[number] = odd(rules[number])
    return (wood, start, told)


def all_trees(wood, kind, room, mark):
    """All trees of the kind of at most so many levels, all with the one mark."""
    told = []
    for name, kinds in dict(wood)[kind]:
        if room > 1 or not kinds:
            below = [all_trees(wood, each, room - 1, mark) for each in kinds]
            told += [(name, mark, branches) for branches in itertools.product(*below)]
    return told


def marked_trees(wood, kind, room):
    """Trees among which are two that a mode makes unlike at a place, where any two of so few levels are.

    Other marks are not needed: where a mark is kept, that of 0 or that of 1 makes it unlike another one.
    """
    return all_trees(wood, kind, room, 0) + all_trees(wood, kind, room, 1)


def ring(many, leaf=put("a"), last=put("b"), node=call):
    """A turning of LINE's whose modes call one another in a ring, the last of which makes something else of a leaf.

    So with the first mode a tree of as many levels as there are modes is the first to come to something else.
    """
    ends = [leaf] * (many - 1) + [last]
    return (LINE, call(0), [("t", [end, node((mode + 1) % many, 0)]) for mode, end in enumerate(ends)])


def odd_at_the_end(many):
    """A turning of LINE's whose modes come one behind the other, the last of which makes something else of an n.

    So with the first mode it takes one level more than there are modes.
    """
    modes = [("t", [put("a"), call(mode + 1, 0)]) for mode in range(many - 1)]
    return (LINE, call(0), modes + [("t", [put("a"), put("b")])])


def own_marks(tree):
    """The tree, each of whose names has a mark of its own.

    Where two turnings, whose adds are small, make the same of it, they do so whatever its marks are.
    """
    marks = itertools.count(1000, 1000)

    def marked(each):
        return (each[0], next(marks), tuple(marked(branch) for branch in each[2]))

    return marked(tree)


def with_calls(term, change):
    """The term, each call giving way to what change tells of its mode and branch."""
    if term[0] == "call":
        return change(term[1], term[2])
    return term[:4] + (tuple(with_calls(part, change) for part in term[4]),)


def with_terms(turning, change):
    """The turning, each term, the start too, giving way to what change tells of it and of the row's kinds."""
    wood, start, modes = turning
    told = [(kind, [change(rule, row[1]) for rule, row in zip(rules, dict(wood)[kind])]) for kind, rules in modes]
    return ([(kind, list(rows)) for kind, rows in wood], change(start, (wood[0][0],)), told)


def doubled(chance, turning):
    """The same with each mode twice, one or the other of which is called."""
    many = len(turning[2])
    wood, start, modes = turning
    return with_terms((wood, start, modes + modes), lambda term, kinds: with_calls(
        term, lambda mode, branch: call(mode + many * chance.randrange(2), branch)))


def shuffled(chance, turning):
    """The same with its modes in another order."""
    order = list(range(len(turning[2])))
    chance.shuffle(order)
    wood, start, modes = with_terms(turning, lambda term, kinds: with_calls(
        term, lambda mode, branch: call(order.index(mode), branch)))
    return (wood, start, [modes[mode] for mode in order])


def put_later(chance, turning):
    """The same, in which some of what a rule puts out is put out by new modes, that are called instead."""
    wood, start, modes = turning
    new = []

    def later(term, kinds):
        branches = {branch for mode, branch in calls_in(term)} or set(range(len(kinds)))
        if term[0] == "put" and len(branches) == 1 and not keeps(term) and chance.random() < 0.6:
            branch = min(branches)
            new.append((kinds[branch], [
                with_calls(term, lambda mode, its_branch: modes[mode][1][number])
                for number in range(len(dict(wood)[kinds[branch]]))]))
            return call(len(modes) + len(new) - 1, branch)
        return term if term[0] == "call" else term[:4] + (tuple(later(part, kinds) for part in term[4]),)

    wood, start, told = with_terms(turning, later)
    return (wood, start, told + new)


def calls_in(term):
    return [term[1:]] if term[0] == "call" else [each for part in term[4] for each in calls_in(part)]


def keeps(term):
    return term[0] == "put" and (term[2] or any(keeps(part) for part in term[4]))


def rewritten(chance, turning):
    """A turning that makes the same and is written otherwise."""
    for change in chance.choices([doubled, shuffled, put_later], k=3):
        turning = change(chance, turning)
    return turning


def some_trees(chance, wood, deepest):
    """All small trees of the wood, and some of at most so many levels."""
    kind = wood[0][0]
    return all_trees(wood, kind, deepest - 2, 0) + [grown_tree(chance, wood, kind, deepest) for _ in range(5)]


def makes_the_same(case, turning, told, trees):
    """Holds what is told of both turnings' outcomes of these trees against one another."""
    for tree in trees:
        outcome = made(turning, turning[1], 0, (tree,))
        case.assertEqual((many_names(told, tree), tall(told, tree)), (size(outcome), levels(outcome)))
        if size(outcome) <= 400:
            case.assertEqual(turned(told, tree), outcome)
            for place in places(outcome)[:9]:
                case.assertEqual(seen(told, tree, place), seen(turning, tree, place))
                case.assertEqual(seen(told, tree, place + (4,)), seen(turning, tree, place + (4,)))


def shows_turnings(case, function, wood, pairs):
    """Holds what the function makes of turnings of the wood against texts: pairs of what is handed in and told."""
    for text, told in pairs:
        found = function(read_turning(wood, text))
        case.assertEqual(show_turning(found), told)
        case.assertEqual(found[0], wood)
        case.assertTrue(is_sound(*found))


def tells_new_turnings(case, function):
    """Whether what the function makes of a turning is the asker's own."""
    turning = copy.deepcopy(TURN)
    told = function(turning)
    again = function(turning)
    case.assertEqual(told, again)
    told[0][0][1].clear()
    told[0].clear()
    for kind, rules in told[2]:
        rules.clear()
    told[2].clear()
    case.assertEqual(turning, TURN)
    case.assertEqual(function(turning), again)
    turning[0][0][1].clear()
    turning[0].clear()
    turning[2][0][1].clear()
    turning[2].clear()
    case.assertEqual(again, function(TURN))
    # Also where nothing is other than in what is handed in.
    turning = copy.deepcopy(ADDED)
    told = function(turning)
    case.assertEqual(told, turning)
    told[0][0][1].append("x")
    told[2][0][1].append("x")
    told[2].append("x")
    case.assertEqual(turning, ADDED)


def tells_turnings(case, function):
    """Whether what the function makes of a turning is of the right kinds."""
    told = function(TURN)
    case.assertEqual([type(each) for each in told], [list, tuple, list])
    case.assertEqual([type(each) for each in told[0]], [tuple] * 3)
    for kind, rules in told[2]:
        case.assertEqual((type(kind), type(rules)), (str, list))
        case.assertEqual({type(rule) for rule in rules}, {tuple})


# Woods whose names are a, b and c: one kind, kinds that share their names, and three kinds.
ABC = read_wood("t = a | b(t) | c(t t)")
SHARED = read_wood("t = a | b(u) | c(u t); u = a | b(t t) | c(t)")
THREE = read_wood("t = a | b(v t) | c(u); u = b | a(t) | c(v u); v = a | b(u u) | c(t v t)")


def turning_into(chance, wood, other, many, room, odd=0):
    """Some turning of the wood, of so many modes, whose outcomes are trees of the other one but where they are odd."""
    kinds = [wood[0][0]] + [chance.choice(wood)[0] for _ in range(many - 1)]
    wants = [other[0][0]] + [chance.choice(other)[0] for _ in range(many - 1)]

    def term(kind, branches, room, keeps_marks):
        calls = [call(mode, branch) for branch, its_kind in enumerate(branches) for mode in range(many)
                 if kinds[mode] == its_kind and wants[mode] == kind]
        if calls and chance.random() < 0.5:
            return chance.choice(calls)
        if chance.random() < odd:
            return put(chance.choice("abcx"), *[put("a")] * chance.randrange(3))
        name, below = chance.choice([row for row in dict(other)[kind] if room > 1 or not row[1]])
        parts = [term(each, branches, room - 1, keeps_marks) for each in below]
        return put(name, *parts, kept=keeps_marks and chance.random() < 0.5, add=chance.randrange(-2, 3))

    modes = [(kind, [term(want, row[1], room, True) for row in dict(wood)[kind]]) for kind, want in zip(kinds, wants)]
    start = call(0) if chance.random() < 0.7 else term(wants[0], kinds[:1], room, False)
    return ([(kind, list(rows)) for kind, rows in wood], start, modes)


def refuses(case, error, function, *handed):
    """Whether the function refuses with just this error, and leaves what is handed in as it is."""
    before = copy.deepcopy(handed)
    with case.assertRaises(error) as caught:
        function(*handed)
    case.assertIs(type(caught.exception), error)
    case.assertEqual(handed, before)


def asked_twice(case, function, *handed):
    """What the function tells, twice the same, of what stays as it is."""
    before = copy.deepcopy(handed)
    told = function(*handed)
    case.assertEqual(handed, before)
    case.assertEqual(function(*handed), told)
    return told


def spoil(thing):
    """Spoils every list in what is handed in."""
    if isinstance(thing, (list, tuple)):
        for each in thing:
            spoil(each)
    if isinstance(thing, list):
        thing.clear()
        thing.append("spoilt")
