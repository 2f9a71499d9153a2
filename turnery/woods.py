"""Woods, lists of tuples (kind, rows), which tell what trees there are."""

from turnery.errors import NoText, NoTree, NoWood
from turnery.readers import Reader
from turnery.treetexts import show_in_brackets

MOST_KINDS = 6
MOST_ROWS = 16
MOST_BRANCHES = 4


def read_wood(text):
    """The wood of the text; refused with NoText for its form or its numbers, and behind that with NoWood."""
    reader = Reader(text)
    found = reader.parted_by(";", lambda: kind_from(reader))
    reader.need_end()
    check_numbers(found)
    check_kinds(found)
    return [(kind, sorted(rows)) for kind, rows in found]


def kind_from(reader):
    kind = reader.take_name()
    reader.need("=")
    return (kind, reader.parted_by("|", lambda: row_from(reader)))


def row_from(reader):
    name = reader.take_name()
    return (name, reader.in_brackets(lambda: reader.take_name()))


def check_numbers(wood):
    if len(wood) > MOST_KINDS:
        raise NoText(f"there are more than {MOST_KINDS} kinds")
    if sum([len(rows) for kind, rows in wood]) > MOST_ROWS:
        raise NoText(f"there are more than {MOST_ROWS} rows")
    for kind, rows in wood:
        for name, branches in rows:
            if len(branches) > MOST_BRANCHES:
                raise NoText(f"{name!r} of {kind!r} has more than {MOST_BRANCHES} branches")


def check_kinds(wood):
    kinds = [kind for kind, rows in wood]
    if has_one_twice(kinds):
        raise NoWood("a kind is told twice")
    for kind, rows in wood:
        check_rows(kinds, kind, rows)


def check_rows(kinds, kind, rows):
    if has_one_twice([name for name, branches in rows]):
        raise NoWood(f"a name has two rows in {kind!r}")
    for name, branches in rows:
        for wanted in branches:
            if wanted not in kinds:
                raise NoWood(f"{name!r} of {kind!r} names {wanted!r}, which is no kind")
    if all([len(branches) > 0 for name, branches in rows]):
        raise NoWood(f"{kind!r} has no row without branches")


def has_one_twice(names):
    return len(set(names)) < len(names)


def show_wood(wood):
    """The text of the wood."""
    return "; ".join([kind + " = " + show_rows(rows) for kind, rows in wood])


def show_rows(rows):
    return " | ".join([name + show_in_brackets(branches) for name, branches in rows])


def own_wood(wood):
    """The same wood in lists of its own."""
    return [(kind, list(rows)) for kind, rows in wood]


def rows_of(wood, kind):
    """The kind's rows; none where the kind isn't told, as each kind that is told has at least one."""
    return dict(wood).get(kind, [])


def row_of(wood, kind, name):
    """The tuple of the kinds of the row's branches, or None where there is no such kind or row."""
    return dict(rows_of(wood, kind)).get(name)


def is_of(wood, kind, tree):
    """Whether the tree is of the kind."""
    branches = tree[2]
    kinds = row_of(wood, kind, tree[0])
    if kinds is None or len(kinds) != len(branches):
        return False
    return all([is_of(wood, wanted, branch) for wanted, branch in zip(kinds, branches)])


def need_of(wood, kind, tree):
    if not is_of(wood, kind, tree):
        raise NoTree(f"this is no tree of the kind {kind!r}")


def need_in(wood, tree):
    """Refuses what is no tree of the wood, whose trees are those of its first kind."""
    need_of(wood, wood[0][0], tree)


def leaf_of(wood, kind):
    """The tree of the kind's first row without branches."""
    for name, branches in rows_of(wood, kind):
        if len(branches) == 0:
            return (name, 0, ())
    return None
