"""The full states to which the steps of part 5 lead, with all choices."""

from collections import Counter
from itertools import product

from smallwidth.states import first_state, forgotten, joined, with_edge, with_vertex
from term_helpers import EMPTY, JOIN


def first_ways(formula):
    """How many values lead to each full state of the empty graph."""
    return Counter([first_state(formula)])


def ways_after(formula, ways, step):
    """The full states behind a step, and how many values lead to each."""
    found = Counter()
    for full, many in ways.items():
        if step[0] == "forget":
            found[forgotten(formula, full, step[1])] += many
            continue
        function = with_vertex if step[0] == "new" else with_edge
        for chosen in product((False, True), repeat=len(full[0])):
            behind = function(formula, full, *step[1:], chosen)
            if behind is not None:
                found[behind] += many
    return found


def ways_joined(formula, first, second):
    found = Counter()
    for one, other in product(first, second):
        both = joined(formula, one, other)
        if both is not None:
            found[both] += first[one] * second[other]
    return found


def ways_of(formula, term):
    """For each step of a term, the full states and how many lead there."""
    stack, found = [], []
    for step in term:
        if step == EMPTY:
            stack.append(first_ways(formula))
        elif step == JOIN:
            upper = stack.pop()
            stack.append(ways_joined(formula, stack.pop(), upper))
        else:
            stack.append(ways_after(formula, stack.pop(), step))
        found.append(stack[-1])
    return found
