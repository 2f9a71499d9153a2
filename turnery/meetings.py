"""The search for a tree that parts two turnings of one wood."""

from turnery.running import turned_in
from turnery.stumps import OPEN, is_open
from turnery.terms import down_to, is_call, put_head, tree_term
from turnery.trees import at
from turnery.ways import row_above, tree_on
from turnery.woods import leaf_of, rows_of

# Where two puts are unlike with any mark on what is read, they are so with one of these.
MARKS = (0, 1)


class Meetings:
    """The spots that are to come to the same of each tree, looked at for trees of one level more each time.

    A spot is what down_to tells: a put, or a call and a place in what it makes. Two spots, one of each turning, meet
    at a place of both outcomes, at the end of a way down through the tree, beside which there are only leaves. What
    lies above a place meets ahead of what stands there, so that no place is asked for that an outcome hasn't.
    """

    def __init__(self, one, other):
        self.turnings = (one, other)
        self.wood = one[0]
        # Spots that have met are not looked at again: on a longer way they need more levels.
        self.known = {}
        # Tuples (spots, place, way), a way being a tuple of steps (row, mark, branch).
        self.waiting = []

    def begin(self):
        """The tree of one level and the place by which the turnings part, or None."""
        spots = tuple([(turning[1], ()) for turning in self.turnings])
        found = self.meet(spots, (), (), row_above(self.wood))
        return self.by_rows(self.waiting, False) if found is None else found

    def go_on(self):
        """The tree of one level more and the place by which the turnings part, or None."""
        before = self.waiting
        self.waiting = []
        found = self.by_rows(before, True)
        return self.by_rows(self.waiting, False) if found is None else found

    def by_rows(self, meetings, branching):
        """The tree and the place that part at rows with branches, or at rows without; or None."""
        for spots, place, way in meetings:
            for number, row in enumerate(rows_of(self.wood, kind_below(way))):
                if (len(row[1]) > 0) == branching:
                    found = self.meet(self.spots_by_row(spots, number), place, way, row)
                    if found is not None:
                        return found
        return None

    def spots_by_row(self, spots, number):
        return tuple([spot_by_row(turning[2], spot, number) for turning, spot in zip(self.turnings, spots)])

    def meet(self, spots, place, way, row):
        """The tree and the place where both are unlike by what this row puts out, or None; calls are set waiting."""
        one = spots[0][0]
        other = spots[1][0]
        if is_open(one) or is_open(other):
            return None
        if is_call(one) and is_call(other):
            self.calls_meet(spots, place, way, row)
            return None
        if is_call(one) or is_call(other):
            self.head_waits(spots, place, way, row)
        elif unlike_with(one, other) is not None:
            return (tree_on(self.wood, way, row, unlike_with(one, other)), place)
        return self.parts_meet(spots, place, way, row)

    def parts_meet(self, spots, place, way, row):
        one = spots_below(spots[0], spots[1])
        other = spots_below(spots[1], spots[0])
        for number, parts in enumerate(zip(one, other)):
            found = self.meet(parts, place + (number,), way, row)
            if found is not None:
                return found
        return None

    def calls_meet(self, spots, place, way, row):
        branch = spots[0][0][2]
        if branch == spots[1][0][2]:
            self.wait(spots, place, way + ((row, 0, branch),))
        else:
            # Each branch is gone down by itself, the other one being a leaf.
            self.meet((self.leaf_spot(0, spots[0], row), spots[1]), place, way, row)
            self.meet((spots[0], self.leaf_spot(1, spots[1], row)), place, way, row)

    def leaf_spot(self, number, spot, row):
        """The put that the call's spot comes to, where its branch is a leaf."""
        leaf = leaf_of(self.wood, row[1][spot[0][2]])
        made = at(turned_in(self.turnings[number], spot[0][1], leaf), spot[1])
        # What lies above isn't looked at for the leaf yet; where it has no such place, it will be unlike there.
        return (OPEN if made is None else tree_term(made), ())

    def head_waits(self, spots, place, way, row):
        """Sets waiting what the call makes at its place, and of the put what it puts out itself, without its parts."""
        branch = [term[2] for term, rest in spots if is_call(term)][0]
        for mark in MARKS:
            self.wait(tuple([head_of(spot, mark) for spot in spots]), place, way + ((row, mark, branch),))

    def wait(self, spots, place, way):
        key = tuple([on_one_branch(spot) for spot in spots])
        if key not in self.known:
            self.known[key] = True
            self.waiting.append((key, place, way))


def kind_below(way):
    """The kind of the tree at the end of the way."""
    row = way[-1][0]
    return row[1][way[-1][2]]


def spot_by_row(modes, spot, number):
    """What the spot comes to at the kind's row of that number."""
    term = spot[0]
    return down_to(modes[term[1]][1][number], spot[1]) if is_call(term) else spot


def spots_below(spot, beside):
    """The spots of the parts, one for each part of the spot beside, where this one is a call."""
    if is_call(spot[0]):
        return [(spot[0], spot[1] + (number,)) for number in range(len(beside[0][4]))]
    return [(part, ()) for part in spot[0][4]]


def head_of(spot, mark):
    """The spot of a call as it is, that of a put with open parts and the mark that it puts out with this one."""
    if is_call(spot[0]):
        return spot
    head = put_head(spot[0], mark)
    return (("put", head[0], False, head[1], (OPEN,) * head[2]), ())


def on_one_branch(spot):
    """The spot with 0 for the call's branch, so that what is called on any branch is known by the same."""
    return (("call", spot[0][1], 0), spot[1]) if is_call(spot[0]) else spot


def unlike_with(one, other):
    """A mark with which both puts put out what is unlike, or None."""
    for mark in MARKS:
        if put_head(one, mark) != put_head(other, mark):
            return mark
    return None
