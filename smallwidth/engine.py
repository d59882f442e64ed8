"""The states of one formula, each under a number.

States are nested deep, and have most of what is in them in common. What is
known of a number can be looked up, so that nothing is worked out twice.
"""

from smallwidth.errors import TooMany
from smallwidth.formula import ATOMS
from smallwidth.marks import continuations, first_mark, fitting, is_here
from smallwidth.parts import numbered_parts

MOST_PAIRS = 3000

# The settled states have numbers below that of the open one.
YES = 0
NO = 1
OPEN = 2


class Engine:
    """Works out the states of a formula and of the parts in it.

    A part is told by its place in `parts`, and a state by its place in
    `contents`. There stand ("yes",), ("no",), ("open",), ("pair", s, t) with
    the numbers of two states, and ("many", pairs) with an ascending tuple of
    pairs of a mark, as marks.py has it, and the number of a state.
    """

    def __init__(self, formula):
        self.parts = numbered_parts(formula)
        self.top = len(self.parts) - 1
        self.free = self.parts[self.top].free
        self.contents = [("yes",), ("no",), ("open",)]
        self._numbers = {content: state for state, content in enumerate(self.contents)}
        self._behind = {}
        self._joins = {}
        self._truths = {}
        self._with_marks = {}
        # The ways in which a step touches the values of several variables
        # are kept in one number, with two bits for each variable.
        self._shifts = shifts_of(self.parts)
        self._masks = [self.touches_of(part.free, [3 for _ in part.free]) for part in self.parts]

    def touches_of(self, variables, touches):
        """The number that tells how a step touches these variables."""
        return sum([touch << self._shifts[v] for v, touch in zip(variables, touches)])

    def first(self, at):
        """The state of a part in the graph without vertices."""
        part = self.parts[at]
        if part.word in ATOMS:
            return YES if part.word == "true" else OPEN
        inner = [self.first(number) for number in part.inner]
        if part.bound_sort is None:
            return self._combined(part.word, inner)
        return self._many(part, {(first_mark(part.bound_sort), inner[0]): True})

    def after(self, at, state, step, touches):
        """The state of a part behind a step that so touches its values."""
        if state < OPEN:
            return state
        key = (at, state, step, touches & self._masks[at])
        if key not in self._behind:
            self._behind[key] = self._found_after(self.parts[at], state, step, touches)
        return self._behind[key]

    def _found_after(self, part, state, step, touches):
        """What `after` tells of a state that is neither yes nor no."""
        if part.word in ATOMS:
            told = [touches >> self._shifts[variable] & 3 for variable in part.variables]
            return settled(part.word, step[0], told)
        if part.bound_sort is None:
            inner = self.states_in(part, state)
            found = [self.after(at, one, step, touches) for at, one in zip(part.inner, inner)]
            return self._combined(part.word, found)
        shift = self._shifts[part.variables[0]]
        # The same variable may be free outside: that is another one.
        others = touches & ~(3 << shift)
        before = self.pairs_in(state)
        pairs = {}
        for mark, one in before:
            for whole, touch in continuations(part.bound_sort, mark, step):
                found = self.after(part.inner[0], one, step, others | touch << shift)
                pairs[(whole, found)] = True
        return self._many(part, pairs)

    def joined(self, at, first, second):
        """The state of a part in the join of two graphs."""
        if first < OPEN:
            return first
        if second < OPEN:
            return second
        # Only atoms, and "not" of them, are open: then both states are.
        if first == OPEN:
            return OPEN
        key = (at, first, second) if first < second else (at, second, first)
        if key not in self._joins:
            self._joins[key] = self._found_joined(self.parts[at], first, second)
        return self._joins[key]

    def _found_joined(self, part, first, second):
        """What `joined` tells of what is neither settled nor open."""
        if part.bound_sort is None:
            left, right = self.states_in(part, first), self.states_in(part, second)
            found = [self.joined(at, s, t) for at, s, t in zip(part.inner, left, right)]
            return self._combined(part.word, found)
        with_mark = self._states_with_marks(second)
        before = self.pairs_in(first)
        at = part.inner[0]
        pairs = {}
        for mark, one in before:
            for fit, whole in fitting(part.bound_sort, mark):
                for other in with_mark.get(fit, ()):
                    pairs[(whole, self.joined(at, one, other))] = True
        return self._many(part, pairs)

    def _states_with_marks(self, state):
        """The states in a "many", as a list for each mark."""
        if state not in self._with_marks:
            found = {}
            for mark, one in self.pairs_in(state):
                found.setdefault(mark, []).append(one)
            self._with_marks[state] = found
        return self._with_marks[state]

    def holds(self, at, state):
        """Whether a part holds if nothing more comes to the graph."""
        if state < OPEN:
            return state == YES
        part = self.parts[at]
        if part.word in ATOMS:
            return part.word == "within"
        key = (at, state)
        if key not in self._truths:
            self._truths[key] = self._found_holding(part, state)
        return self._truths[key]

    def _found_holding(self, part, state):
        """What `holds` tells of what is no atom, and neither yes nor no."""
        if part.bound_sort is None:
            inner = self.states_in(part, state)
            told = [self.holds(at, one) for at, one in zip(part.inner, inner)]
        else:
            here = [one for mark, one in self.pairs_in(state) if is_here(part.bound_sort, mark)]
            told = [self.holds(part.inner[0], one) for one in here]
        if part.word == "not":
            return not told[0]
        return all(told) if part.word in ("and", "all") else any(told)

    def states_in(self, part, state):
        """The states of the formulas in a "not", "and" or "or"."""
        return (state,) if part.word == "not" else self.contents[state][1:]

    def pairs_in(self, state):
        """The pairs of a mark and a state in a "many"."""
        return self.contents[state][1]

    def _combined(self, word, states):
        """The state of a "not", "and" or "or" with these states in it."""
        if word == "not":
            return {YES: NO, NO: YES}.get(states[0], states[0])
        settling, other = (NO, YES) if word == "and" else (YES, NO)
        if settling in states:
            return settling
        if states == [other, other]:
            return other
        return self.state_of(("pair", *states))

    def _many(self, part, pairs):
        """The state of a "some" or "all" whose values give these pairs."""
        settling, other = (YES, NO) if part.word == "some" else (NO, YES)
        left = []
        for mark, state in pairs:
            if state == settling and is_here(part.bound_sort, mark):
                return settling
            if state != other:
                left.append((mark, state))
        if not left:
            return other
        if len(left) > MOST_PAIRS:
            raise TooMany("a state would have too many pairs")
        return self.state_of(("many", tuple(sorted(left))))

    def state_of(self, content):
        """The number of the state with this content."""
        if content not in self._numbers:
            self._numbers[content] = len(self.contents)
            self.contents.append(content)
        return self._numbers[content]


def shifts_of(parts):
    """For each variable that occurs in some parts, where its bits begin."""
    found = []
    for part in parts:
        found.extend(part.variables)
    return {variable: 2 * place for place, variable in enumerate(sorted(set(found)))}


def settled(word, step_word, touches):
    """The state of an open atom behind a step that so touches its values."""
    # That an atom is open tells much of its values: those of "same" are
    # nowhere, and so is the first one of "ends" and of "in".
    first, second = touches
    if word == "near" and step_word == "edge":
        return YES if (first, second) in ((1, 2), (2, 1)) else OPEN
    if word == "near" and step_word == "new":
        return NO if first and second else OPEN
    if word == "near" or (word == "ends" and step_word == "forget"):
        return NO if first or second else OPEN
    if word == "same":
        if first and second:
            return YES
        return NO if first or second else OPEN
    if word == "within":
        return NO if first and not second else OPEN
    # What is left is "in", and "ends" behind another step.
    if first:
        return YES if second else NO
    return OPEN
