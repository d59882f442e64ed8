"""Tables: the kinds for a sentence, put together where nothing parts them."""

from smallwidth.errors import BadValues, BadWidth, NoSuchClass
from smallwidth.formula import free
from smallwidth.frames import is_step
from smallwidth.graph import is_vertex
from smallwidth.kinds import NO_KIND, Kinds
from smallwidth.terms import check_term

MOST_IN_TABLES = 3


class Table:
    """The classes for a sentence and the labels 0 to k."""

    def __init__(self, formula, k):
        check_sentence(formula, k)
        found = Kinds(formula, k)
        rounds = rounds_of(found)
        firsts = firsts_of(rounds[-1])
        # The number for no kind is that of the last item.
        class_of = [*rounds[-1], None]
        self.formula = formula
        self.k = k
        self.kinds = len(found.frames)
        self.size = len(firsts)
        self._frames = [found.frames[kind] for kind in firsts]
        self._holding = [found.holds(kind) for kind in firsts]
        self._places = {step: place for place, step in enumerate(found.steps)}
        self._behind = [[class_of[to] for to in found.behind[kind]] for kind in firsts]
        self._joins = [
            [class_of[found.join_of(kind, other)] for other in firsts] for kind in firsts
        ]
        self._rounds = [[blocks[kind] for kind in firsts] for blocks in rounds]

    def frame(self, c):
        """The frame of a class."""
        self._check_class(c)
        return self._frames[c]

    def holds(self, c):
        """Whether the sentence holds in the graphs of a class."""
        self._check_class(c)
        return self._holding[c]

    def after(self, c, step):
        """The class to which a step leads, or None if it cannot be taken."""
        self._check_class(c)
        if not is_step(step, self.k) or step not in self._places:
            return None
        return self._behind[c][self._places[step]]

    def both(self, c, d):
        """The class of a join, or None if the classes cannot be joined."""
        self._check_class(c)
        self._check_class(d)
        return self._joins[c][d]

    def of(self, term):
        """The class of a term."""
        check_term(term, self.k)
        stack = []
        for step in term:
            if step[0] == "empty":
                stack.append(0)
            elif step[0] == "join":
                upper = stack.pop()
                stack.append(self._joins[stack.pop()][upper])
            else:
                stack.append(self._behind[stack.pop()][self._places[step]])
        return stack[0]

    def all_steps(self):
        """The steps "new", "edge" and "forget" for the labels 0 to k."""
        return list(self._places)

    def joins_of(self, c):
        """For each class that of its join with this one, or None."""
        return list(self._joins[c])

    def parting_move(self, c, d):
        """The first move of a shortest way to part two classes.

        This is a tuple of the move and the classes to which it leads. Both
        have the same frame, and the sentence holds in both or in none.
        """
        apart = [blocks for blocks in self._rounds if blocks[c] != blocks[d]]
        before = self._rounds[-len(apart) - 1]
        moves = [(step, self.after(c, step), self.after(d, step)) for step in self._places]
        for other in range(self.size):
            moves.append((("with", other), self._joins[c][other], self._joins[d][other]))
        taken = [move for move in moves if move[1] is not None]
        return [move for move in taken if before[move[1]] != before[move[2]]][0]

    def _check_class(self, value):
        """Raises an error if a value is no class."""
        if not is_vertex(value, self.size):
            raise NoSuchClass("there is no such class")


def check_sentence(formula, k):
    """Raises an error for what is no sentence, or for a k out of range."""
    if free(formula):
        raise BadValues("the formula has a free variable")
    if not is_vertex(k, MOST_IN_TABLES + 1):
        raise BadWidth("k is out of range")


def rounds_of(found):
    """What can be told apart by no move, then also by one move, and so on.

    For each of these there is a list of a number for each kind, which kinds
    have in common that are not told apart. The last round is that of the
    classes: one more move tells no more apart.
    """
    rows = []
    for at, behind in enumerate(found.behind):
        rows.append([at, *behind, *[found.join_of(at, to) for to in found.group_of(at)]])
    rounds = [numbered([(frame, found.holds(at)) for at, frame in enumerate(found.frames)])]
    while True:
        # The number for no kind is that of the last item.
        blocks = [*rounds[-1], NO_KIND]
        following = numbered([tuple([blocks[to] for to in row]) for row in rows])
        if following == rounds[-1]:
            return rounds
        rounds.append(following)


def numbered(values):
    """The values as numbers, in the order in which they first come."""
    numbers = {}
    for value in values:
        numbers.setdefault(value, len(numbers))
    return [numbers[value] for value in values]


def firsts_of(blocks):
    """The places at which the numbers 0, 1, 2 and so on first come."""
    return [blocks.index(number) for number in range(max(blocks) + 1)]


def parting(table, c, d):
    """The fewest moves that tell two classes with the same frame apart."""
    if table.frame(c) != table.frame(d) or c == d:
        return None
    moves = []
    while table.holds(c) == table.holds(d):
        move, c, d = table.parting_move(c, d)
        moves.append(move)
    return moves
