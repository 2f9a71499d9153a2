"""A reader, which takes the words of a text one by one, from the left."""

from turnery.errors import NoText
from turnery.words import FIGURES, LETTERS, words


class Reader:
    """Stands at one word of a text at a time, and at an empty one behind the last."""

    def __init__(self, text):
        self.found = words(text)
        self.spot = 0

    def ahead(self):
        """The word at which the reader stands, not yet taken."""
        if self.spot == len(self.found):
            return ""
        return self.found[self.spot]

    def at_name(self):
        return begins_in(self.ahead(), LETTERS)

    def at_number(self):
        return begins_in(self.ahead(), FIGURES + "-")

    def passed(self, sign):
        """Whether the reader stands at the sign, which then is taken."""
        if self.ahead() != sign:
            return False
        self.spot += 1
        return True

    def need(self, sign):
        if not self.passed(sign):
            raise NoText(f"{sign!r} is missing")

    def need_end(self):
        word = self.ahead()
        if word != "":
            raise NoText(f"{word!r} stands behind the end")

    def take_name(self):
        if not self.at_name():
            raise NoText("a name is missing")
        return self.take_word()

    def take_number(self):
        if not self.at_number():
            raise NoText("a number is missing")
        return int(self.take_word())

    def take_word(self):
        word = self.ahead()
        self.spot += 1
        return word

    def in_brackets(self, take_one):
        """A tuple of what stands in brackets, one or more; an empty one where no bracket begins here."""
        taken = []
        if self.passed("("):
            taken.append(take_one())
            while not self.passed(")"):
                taken.append(take_one())
        return tuple(taken)

    def parted_by(self, sign, take_one):
        """The list of what stands here, one or more, parted by the sign."""
        taken = [take_one()]
        while self.passed(sign):
            taken.append(take_one())
        return taken


def begins_in(word, signs):
    # The empty word at a text's end has no first sign, though Python finds it in every text.
    return word != "" and word[0] in signs
