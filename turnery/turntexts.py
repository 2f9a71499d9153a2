"""Turnings read from texts and shown as texts."""

from turnery.errors import NoText, NoTurning
from turnery.readers import Reader
from turnery.terms import calls_of, is_call, term_size, with_modes
from turnery.treetexts import show_in_brackets, show_mark
from turnery.turnings import is_sound
from turnery.woods import has_one_twice, own_wood, row_of, rows_of
from turnery.words import LETTERS

MOST_RULES = 40
MOST_PUTS_AND_CALLS = 120
MOST_BRACKETS = 8


def read_turning(wood, text):
    """The turning of the text; refused with NoText for its form or its numbers, and behind that with NoTurning."""
    reader = Reader(text)
    start = term_from(reader, MOST_BRACKETS)
    rules = []
    while reader.passed(";"):
        rules.append(rule_from(reader))
    reader.need_end()
    check_numbers(start, rules)
    return turning_of(wood, start, rules)


def rule_from(reader):
    """A tuple (the mode's name, kind, the row's name, term)."""
    mode = reader.take_name()
    kind = reader.take_name()
    name = reader.take_name()
    reader.need(":")
    return (mode, kind, name, term_from(reader, MOST_BRACKETS))


def term_from(reader, room):
    """A term whose calls have their modes' names; room tells how many brackets may be within one another."""
    # Refused on the way down, as a text may have brackets deeper than a recursion can go.
    if room < 0:
        raise NoText(f"more than {MOST_BRACKETS} brackets are within one another")
    if reader.passed("*"):
        mode = reader.take_name()
        return ("call", mode, reader.take_number())
    name = reader.take_name()
    kept = reader.passed("=")
    add = reader.take_number() if reader.at_number() else 0
    return ("put", name, kept, add, reader.in_brackets(lambda: term_from(reader, room - 1)))


def check_numbers(start, rules):
    if len(rules) > MOST_RULES:
        raise NoText(f"there are more than {MOST_RULES} rules")
    if term_size(start) + sum([term_size(rule[3]) for rule in rules]) > MOST_PUTS_AND_CALLS:
        raise NoText(f"there are more than {MOST_PUTS_AND_CALLS} puts and calls")


def turning_of(wood, start, rules):
    """The turning of what was read, with a wood of its own."""
    own = own_wood(wood)
    by_modes = {}
    for rule in rules:
        by_modes.setdefault(rule[0], []).append(rule)
    numbers = dict([(mode, number) for number, mode in enumerate(by_modes)])
    modes = [mode_of(own, numbers, its_rules) for its_rules in by_modes.values()]
    term = numbered(start, numbers)
    if not is_sound(own, term, modes):
        raise NoTurning("a call is on no branch of its mode's kind, or the start keeps a mark")
    return (own, term, modes)


def mode_of(wood, numbers, rules):
    """The tuple (kind, terms) of one mode's rules."""
    kind = rules[0][1]
    check_mode(wood, rules[0][0], kind, rules)
    terms = dict([(rule[2], numbered(rule[3], numbers)) for rule in rules])
    return (kind, [terms[name] for name, branches in rows_of(wood, kind)])


def check_mode(wood, mode, kind, rules):
    for rule in rules:
        if rule[1] != kind:
            raise NoTurning(f"the mode {mode!r} has rules of two kinds")
    names = [rule[2] for rule in rules]
    for name in names:
        if row_of(wood, kind, name) is None:
            raise NoTurning(f"the mode {mode!r} has a rule for {name!r} of {kind!r}, which has no row")
    if has_one_twice(names):
        raise NoTurning(f"the mode {mode!r} has two rules for one row")
    if len(names) < len(rows_of(wood, kind)):
        raise NoTurning(f"the mode {mode!r} has no rule for a row of {kind!r}")


def numbered(term, numbers):
    """The term, the modes' names in its calls giving way to their numbers."""
    for mode, branch in calls_of(term):
        if mode not in numbers:
            raise NoTurning(f"the mode {mode!r} is called and has no rules")
    return with_modes(term, numbers)


def show_turning(turning):
    """The text of the turning."""
    shown = [show_term(turning[1])]
    for mode, told in enumerate(turning[2]):
        shown.extend(show_rules(show_mode(mode), told[0], rows_of(turning[0], told[0]), told[1]))
    return "; ".join(shown)


def show_rules(mode, kind, rows, rules):
    ahead = mode + " " + kind + " "
    return [ahead + row[0] + " : " + show_term(rule) for row, rule in zip(rows, rules)]


def show_term(term):
    if is_call(term):
        return "*" + show_mode(term[1]) + str(term[2])
    kept = "=" if term[2] else ""
    return term[1] + kept + show_mark(term[3]) + show_in_brackets([show_term(part) for part in term[4]])


def show_mode(mode):
    """The mode's number in figures to the base 26, a being 0."""
    base = len(LETTERS)
    shown = LETTERS[mode % base]
    rest = mode // base
    while rest > 0:
        shown = LETTERS[rest % base] + shown
        rest = rest // base
    return shown
