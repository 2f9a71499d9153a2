"""The desk, which keeps woods and turnings by names and answers rows."""

from turnery.behind import behind
from turnery.counting import many
from turnery.errors import NoName, NoRow, TooGreat
from turnery.least import least
from turnery.parting import held
from turnery.running import turned
from turnery.sources import source
from turnery.trees import size
from turnery.treetexts import read_tree, show_tree
from turnery.turntexts import read_turning, show_turning
from turnery.woods import read_wood, show_wood
from turnery.words import is_name

MOST_NAMES_OF_SOURCED = 60
# What each deed needs: a new name, the name of a wood, of a turning or of either one, or a text to the row's end.
NEEDS = {
    "wood": ("new", "text"),
    "turning": ("new", "wood", "text"),
    "least": ("new", "turning"),
    "behind": ("new", "turning", "turning"),
    "drop": ("either",),
    "show": ("either",),
    "turn": ("turning", "text"),
    "many": ("turning", "text"),
    "same": ("turning", "turning"),
    "source": ("turning", "text"),
}


class Desk:
    """Keeps woods and turnings, one thing by a name."""

    def __init__(self):
        # By names, tuples (what it is, "wood" or "turning", and the thing itself).
        self.kept = {}

    def say(self, row):
        """The answer to the row, a text. What is refused changes nothing."""
        told = parted_row(row)
        for need, word in zip(NEEDS[told[0]], told[1:]):
            self.check(need, word)
        if told[0] in ("wood", "turning", "least", "behind"):
            # Made ahead of being kept, so that a refusal leaves all as it is.
            self.kept[told[1]] = self.made(told)
            return "ok"
        if told[0] == "drop":
            self.kept.pop(told[1])
            return "ok"
        return self.answer(told)

    def check(self, need, word):
        """Refuses a word that isn't the name that is needed."""
        if need == "text":
            return
        if not is_name(word):
            raise NoName(f"{word!r} is no name")
        if need == "new":
            return
        if word not in self.kept:
            raise NoName(f"nothing stands by {word!r}")
        if need not in ("either", self.kept[word][0]):
            raise NoName(f"{word!r} is no {need}")

    def thing(self, name):
        return self.kept[name][1]

    def made(self, told):
        """What the row makes to be kept."""
        if told[0] == "wood":
            return ("wood", read_wood(told[2]))
        if told[0] == "turning":
            return ("turning", read_turning(self.thing(told[2]), told[3]))
        if told[0] == "least":
            return ("turning", least(self.thing(told[2])))
        return ("turning", behind(self.thing(told[2]), self.thing(told[3])))

    def answer(self, told):
        """The answer to a row that keeps nothing."""
        thing = self.thing(told[1])
        if told[0] == "show":
            return show_wood(thing) if self.kept[told[1]][0] == "wood" else show_turning(thing)
        if told[0] == "same":
            return same_text(held(thing, self.thing(told[2])))
        tree = read_tree(told[2])
        if told[0] == "turn":
            return show_tree(turned(thing, tree))
        if told[0] == "many":
            return str(many(thing, tree))
        return source_text(thing, tree)


def parted_row(row):
    """The list of the row's deed and what it needs, each as a text."""
    if not isinstance(row, str):
        raise NoRow("this is no text")
    deed = row.partition(" ")[0]
    if deed not in NEEDS:
        raise NoRow(f"{deed!r} is no deed")
    needs = NEEDS[deed]
    # A text may have blanks in it; else a blank too many makes a word too many.
    told = row.split(" ", len(needs)) if needs[-1] == "text" else row.split(" ")
    if len(told) != 1 + len(needs):
        raise NoRow(f"{deed!r} needs another number of words")
    return told


def same_text(told):
    """The answer of two turnings held against one another."""
    return "same" if told[0] == "same" else "parted " + show_tree(told[1])


def source_text(turning, tree):
    if size(tree) > MOST_NAMES_OF_SOURCED:
        raise TooGreat(f"the tree has more than {MOST_NAMES_OF_SOURCED} names")
    told = source(turning, tree)
    return show_tree(told[1]) if told[0] == "from" else "none"
