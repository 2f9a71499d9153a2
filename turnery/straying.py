"""Turnings some of whose outcomes are no trees of a wood."""

from turnery.errors import TooGreat
from turnery.terms import is_call
from turnery.ways import row_above, tree_on
from turnery.woods import rows_of

MOST_LEVELS = 40


def strays(turning, wood):
    """A tree of as few levels as can be whose outcome strays from the wood, and a place where it is wrong; or None."""
    demands = Demands(turning, wood)
    if demands.fault is None:
        return None
    if levels_needed(demands.fault) > MOST_LEVELS:
        raise TooGreat(f"more than {MOST_LEVELS} levels are needed")
    return demands.tree_and_place()


def strays_at_all(turning, wood):
    """Whether the turning strays from the wood, by a tree of however many levels."""
    return Demands(turning, wood).fault is not None


def levels_needed(fault):
    """The levels of the tree with the fault's row at the end of its way, and leaves for its branches."""
    spot = fault[0]
    return spot[0] + (1 if len(spot[2][1]) > 0 else 0)


class Demands:
    """The kinds of the wood that are wanted of what modes make, and the first fault by them.

    A demand is a tuple (mode, kind). A spot is a tuple (names, demand, row): where the rule of the demand's mode for
    the row is looked at, so many names down in the tree; that of the start has no demand. A fault is a tuple
    (spot, place): what stands at the place of the spot's rule is wrong.
    """

    def __init__(self, turning, wood):
        self.turning = turning
        self.kinds_below = dict([(kind, dict(rows)) for kind, rows in wood])
        # By demands, the call by which each was met first, and so with as few names as can be: (spot, place, branch).
        self.steps = {}
        self.waiting = []
        # The one that needs as few levels as can be.
        self.fault = None
        self.look((0, None, row_above(turning[0])), (), turning[1], wood[0][0])
        done = 0
        while done < len(self.waiting):
            self.look_by(self.waiting[done])
            done += 1

    def look_by(self, demand):
        """Looks at the rules of the demand's mode."""
        names = self.steps[demand][0][0] + 1
        mode = self.turning[2][demand[0]]
        for row, rule in zip(rows_of(self.turning[0], mode[0]), mode[1]):
            self.look((names, demand, row), (), rule, demand[1])

    def look(self, spot, place, term, kind):
        """Looks at what stands at the place of the spot's rule, of which the kind is wanted."""
        if is_call(term):
            self.meet_demand((term[1], kind), (spot, place, term[2]))
            return
        kinds = self.kinds_below[kind].get(term[1])
        if kinds is None or len(kinds) != len(term[4]):
            self.meet_fault((spot, place))
            return
        for number, part in enumerate(term[4]):
            self.look(spot, place + (number,), part, kinds[number])

    def meet_demand(self, demand, step):
        if demand not in self.steps:
            self.steps[demand] = step
            self.waiting.append(demand)

    def meet_fault(self, fault):
        if self.fault is None or levels_needed(fault) < levels_needed(self.fault):
            self.fault = fault

    def tree_and_place(self):
        """The tree by which the fault shows, and its place in the outcome."""
        spot = self.fault[0]
        place = self.fault[1]
        demand = spot[1]
        way = []
        while demand is not None:
            step = self.steps[demand]
            way.insert(0, (step[0][2], 0, step[2]))
            place = step[1] + place
            demand = step[0][1]
        return (tree_on(self.turning[0], way, spot[2], 0), place)
