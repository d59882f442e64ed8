"""Cops and a robber: whether they catch the robber, and in how many moves."""

from itertools import combinations

from smallwidth.errors import BadPosition
from smallwidth.graph import check_at_most, is_ascending, is_vertex
from smallwidth.width import components

MOST_IN_CHASE = 8


class Chase:
    """The chase of a robber by some cops, worked out for all positions."""

    def __init__(self, graph, cops):
        check_at_most(graph, MOST_IN_CHASE)
        self._size = graph.size
        self._cops = cops
        self._regions = regions_by_standing(graph, cops)
        self._ranks = {}
        self._find_ranks()

    def rank(self, standing, region):
        """The least number of moves to catch the robber, or None."""
        self._check_position(standing, region)
        return self._ranks.get((standing, region))

    def after(self, standing, region, move):
        """The positions that may follow when a move is made."""
        self._check_position(standing, region)
        if not is_move(move, self._size) or move not in self._moves(standing):
            raise BadPosition("there is no such move in this position")
        return self._following(standing, region, move)

    def best(self, standing, region):
        """The first move that leads to smaller ranks alone, or None."""
        self._check_position(standing, region)
        rank = self._ranks.get((standing, region))
        if rank is None:
            return None
        return self._move_below(standing, region, rank)

    def caught(self):
        """Whether the cops catch the robber from wherever they may start."""
        starts = self._regions.get((), [])
        return all([((), region) in self._ranks for region in starts])

    def _check_position(self, standing, region):
        for one in (standing, region):
            if not is_ascending(one, self._size):
                raise BadPosition("these are no vertices in ascending order")
        if region not in self._regions.get(standing, []):
            raise BadPosition("there is no such position")

    def _moves(self, standing):
        """The moves that can be made, in the order in which `best` looks."""
        moves = [("lift", vertex) for vertex in standing]
        if len(standing) < self._cops:
            free = [vertex for vertex in range(self._size) if vertex not in standing]
            moves.extend([("place", vertex) for vertex in free])
        return moves

    def _following(self, standing, region, move):
        word, vertex = move
        if word == "lift":
            left = tuple([other for other in standing if other != vertex])
            return [(left, one) for one in self._regions[left] if region[0] in one]
        # A region without this vertex is itself the only one that is left.
        more = tuple(sorted([*standing, vertex]))
        return [(more, one) for one in self._regions[more] if one[0] in region]

    def _move_below(self, standing, region, limit):
        """The first move behind which all ranks are below a limit, or None."""
        for move in self._moves(standing):
            following = self._following(standing, region, move)
            if all([self._ranks.get(position, limit) < limit for position in following]):
                return move
        return None

    def _find_ranks(self):
        """Finds the positions of rank 1, then those of rank 2, and so on."""
        waiting = []
        for standing in self._regions:
            waiting.extend([(standing, region) for region in self._regions[standing]])
        rank = 1
        found = waiting
        while found:
            found = [(a, b) for a, b in waiting if self._move_below(a, b, rank) is not None]
            for position in found:
                self._ranks[position] = rank
            waiting = [position for position in waiting if position not in self._ranks]
            rank += 1


def regions_by_standing(graph, cops):
    """For each tuple of vertices on which cops can stand, the components."""
    regions = {}
    for many in range(graph.size + 1):
        if many <= cops:
            for standing in combinations(range(graph.size), many):
                regions[standing] = components(graph, standing)
    return regions


def is_move(value, size):
    """Whether a value has the form of a move in a graph of this size."""
    if not isinstance(value, tuple) or len(value) != 2:
        return False
    return isinstance(value[0], str) and is_vertex(value[1], size)
