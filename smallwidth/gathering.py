"""What is known of the values that lead to each full state of a term.

What is kept of them is told by an object with these methods: `first()` for
the only value in the graph without vertices; `grown(kept, member)` if a new
vertex or edge comes to the value; `both(kept, other, common)` for a join,
where the values have so many members in common; `merged(kept, other)` for
the values of both that lead to the same full state.
"""

from smallwidth.errors import TooMany
from smallwidth.fullstates import first_full, fitting_marks, full_after, full_truth
from smallwidth.masks import size_of

MOST_FULL_STATES = 4000


class Numbers:
    """How many values there are."""

    def first(self):
        """One, as for all first ones."""
        return 1

    def grown(self, kept, _):
        """As many, whatever comes to them."""
        return kept

    def both(self, kept, other, _):
        """All values of the one with all of the other."""
        return kept * other

    def merged(self, kept, other):
        """Both together."""
        return kept + other


class NumbersBySize:
    """How many sets of each size there are, as a list."""

    def first(self):
        """The empty set."""
        return [1]

    def grown(self, kept, _):
        """As many that are greater by one."""
        return [0, *kept]

    def both(self, kept, other, common):
        """All sets of the one with all of the other."""
        found = [0] * (len(kept) + len(other) - 1)
        for size, many in enumerate(kept):
            for more, times in enumerate(other):
                found[size + more] += many * times
        # The members in common were counted twice.
        return found[common:]

    def merged(self, kept, other):
        """Both together."""
        longer, shorter = (kept, other) if len(kept) > len(other) else (other, kept)
        found = list(longer)
        for size, many in enumerate(shorter):
            found[size] += many
        return found


class BestSet:
    """The best set: the first one of the greatest, or of the least, size.

    It is kept as a pair of the size, negative if it is to be the least, and
    of a sum of powers of two. The first members have the greatest powers, so
    that of the sets of one size the first one has the greatest sum.
    """

    def __init__(self, many, greatest):
        self.many = many
        self.worth = 1 if greatest else -1

    def first(self):
        """The empty set."""
        return (0, 0)

    def grown(self, kept, member):
        """The set with one more member."""
        size, members = kept
        return (size + self.worth, members | self.power(member))

    def both(self, kept, other, common):
        """Both sets together."""
        return (kept[0] + other[0] - self.worth * common, kept[1] | other[1])

    def merged(self, kept, other):
        """The better one."""
        return max(kept, other)

    def power(self, member):
        """The power of two for a member."""
        return 1 << (self.many - 1 - member)

    def told(self, kept):
        """The size, and the list of the members in ascending order."""
        size, members = kept
        found = [at for at in range(self.many) if members & self.power(at)]
        return size * self.worth, found


def gathered(engine, term, members, keeping):
    """What is kept of all values for which the formula holds, or None.

    For each step that makes a vertex or an edge, `members` tells its number
    in the given graph.
    """
    stack = []
    for step, member in zip(term, members):
        if step[0] == "empty":
            stack.append({first_full(engine): keeping.first()})
        elif step[0] == "join":
            upper = stack.pop()
            stack.append(kept_joined(engine, stack.pop(), upper, keeping))
        else:
            stack.append(kept_after(engine, stack.pop(), step, member, keeping))
    whole = None
    for full, kept in stack[0].items():
        if full_truth(engine, full):
            whole = kept if whole is None else keeping.merged(whole, kept)
    return whole


def kept_after(engine, before, step, member, keeping):
    """What is kept for each full state behind a step."""
    found = {}
    choices = choices_of(len(engine.free), step)
    for full, kept in before.items():
        for chosen in choices:
            behind = full_after(engine, full, step, chosen)
            if behind is not None:
                more = keeping.grown(kept, member) if True in chosen else kept
                keep(found, behind, more, keeping)
    return found


def choices_of(many, step):
    """The ways in which a step can be chosen for so many variables."""
    found = [()]
    for _ in range(many):
        ways = (False,) if step[0] == "forget" else (False, True)
        found = [(*chosen, way) for chosen in found for way in ways]
    return found


def kept_joined(engine, lower, upper, keeping):
    """What is kept for each full state of a join."""
    with_marks = {}
    for marks, state in upper:
        with_marks.setdefault(marks, []).append(state)
    found = {}
    for (marks, state), kept in lower.items():
        for fitting, whole in fitting_marks(engine, marks):
            common = sources_in(engine, whole)
            for other in with_marks.get(fitting, []):
                both = keeping.both(kept, upper[(fitting, other)], common)
                keep(found, (whole, engine.joined(engine.top, state, other)), both, keeping)
    return found


def sources_in(engine, marks):
    """How many sources are in the sets of vertices with these marks."""
    return sum([size_of(mark) for (sort, _), mark in zip(engine.free, marks) if sort == "V"])


def keep(found, full, kept, keeping):
    """Adds what is kept of some values to what is kept for a full state."""
    if full in found:
        found[full] = keeping.merged(found[full], kept)
    else:
        found[full] = kept
        if len(found) > MOST_FULL_STATES:
            raise TooMany("there are too many different full states")
