"""The kinds of terms for a sentence, and how steps lead from one to another."""

from itertools import combinations

from smallwidth.engine import Engine
from smallwidth.errors import TooMany
from smallwidth.frames import frame_after, joined_frame

MOST_KINDS = 1500
NO_KIND = -1


class Kinds:
    """All kinds for a sentence and the labels 0 to k.

    A kind is told by its place in `frames` and `states`: its frame, and the
    number of its state in `engine`. `steps` are the steps other than joins,
    and `behind` tells for each kind the list of those to which they lead.
    """

    def __init__(self, formula, k):
        self.engine = Engine(formula)
        self.steps = steps_for(k)
        self.frames = []
        self.states = []
        self.behind = []
        self._numbers = {}
        self._frame_joins = {}
        # Only kinds with the same labels in use can be joined. So for each
        # kind there is its place among these, and a list of the joins with
        # those of them up to itself.
        self._groups = {}
        self._places = []
        self._joins = []
        self._number_of(((), ()), self.engine.first(self.engine.top))
        # What is found on the way stands behind, and is gone through as well.
        while len(self._joins) < len(self.frames):
            at = len(self._joins)
            self.behind.append([self._kind_behind(at, step) for step in self.steps])
            self._joins.append([self._kind_joined(at, other) for other in self._group_to(at)])

    def _number_of(self, frame, state):
        """The number of a kind, which may be a new one."""
        key = (frame, state)
        if key not in self._numbers:
            number = len(self.frames)
            if number == MOST_KINDS:
                raise TooMany("there are too many kinds")
            self._numbers[key] = number
            group = self._groups.setdefault(frame[0], [])
            self._places.append(len(group))
            group.append(number)
            self.frames.append(frame)
            self.states.append(state)
        return self._numbers[key]

    def _kind_behind(self, at, step):
        """The kind to which a step leads, if it can be taken."""
        frame = frame_after(step, [self.frames[at]])
        if frame is None:
            return NO_KIND
        return self._number_of(
            frame, self.engine.after(self.engine.top, self.states[at], step, 0)
        )

    def _kind_joined(self, at, other):
        """The kind of the join of two kinds with the same labels, if there is one."""
        key = (self.frames[at], self.frames[other])
        if key not in self._frame_joins:
            self._frame_joins[key] = joined_frame(*key)
        frame = self._frame_joins[key]
        if frame is None:
            return NO_KIND
        return self._number_of(
            frame, self.engine.joined(self.engine.top, self.states[at], self.states[other])
        )

    def _group_to(self, at):
        """The kinds with the same labels as this one, up to itself."""
        labels, _ = self.frames[at]
        return self._groups[labels][:self._places[at] + 1]

    def group_of(self, at):
        """All kinds with the same labels in use as this one."""
        labels, _ = self.frames[at]
        return list(self._groups[labels])

    def join_of(self, at, other):
        """The kind of the join of two kinds, if they can be joined."""
        if self.frames[at][0] != self.frames[other][0]:
            return NO_KIND
        return self._joins[max(at, other)][self._places[min(at, other)]]

    def holds(self, at):
        """Whether the sentence holds in the graphs of a kind."""
        return self.engine.holds(self.engine.top, self.states[at])


def steps_for(k):
    """The steps "new", "edge" and "forget" for the labels 0 to k."""
    labels = range(k + 1)
    found = [("new", label) for label in labels]
    found.extend([("edge", *pair) for pair in combinations(list(labels), 2)])
    found.extend([("forget", label) for label in labels])
    return found
