"""Trees read from texts and shown as texts."""

from turnery.errors import NoText
from turnery.readers import Reader
from turnery.trees import size

MOST_NAMES = 200
MOST_LEVELS = 40


def read_tree(text):
    """The tree of the text; refused with NoText where the text isn't one tree, or one that is too great."""
    reader = Reader(text)
    tree = tree_from(reader, MOST_LEVELS)
    reader.need_end()
    if size(tree) > MOST_NAMES:
        raise NoText(f"the tree has more than {MOST_NAMES} names")
    return tree


def tree_from(reader, room):
    # Refused on the way down, as a text may have brackets deeper than a recursion can go.
    if room == 0:
        raise NoText(f"the tree has more than {MOST_LEVELS} levels")
    name = reader.take_name()
    mark = reader.take_number() if reader.at_number() else 0
    return (name, mark, reader.in_brackets(lambda: tree_from(reader, room - 1)))


def show_tree(tree):
    """The text of the tree."""
    return tree[0] + show_mark(tree[1]) + show_in_brackets([show_tree(branch) for branch in tree[2]])


def show_mark(mark):
    return "" if mark == 0 else str(mark)


def show_in_brackets(texts):
    """The texts in brackets, parted by one blank each; nothing where there are none."""
    if len(texts) == 0:
        return ""
    return "(" + " ".join(texts) + ")"
