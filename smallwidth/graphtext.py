"""The text of a graph, and the graph of a text."""

from smallwidth.errors import BadText
from smallwidth.graph import MOST_VERTICES, Graph, is_edge

# The greatest number in a text is that of the edges of the graph with 60
# vertices and all edges: 1770. Python refuses to read very long numbers.
MOST_DIGITS = 4


def graph_text(graph):
    """The text of a graph: the first line, and one for each edge."""
    lines = [f"graph {graph.size} {len(graph.edges)}\n"]
    lines.extend([f"{u} {v}\n" for u, v in graph.edges])
    return "".join(lines)


def graph_of(text):
    """The graph whose text it is."""
    # What stands behind the last newline lacks its own. So it is as wrong
    # as if it were missing, and has the same number.
    *lines, behind = text.split("\n")
    size, many = first_line(lines)
    edges = []
    for line in lines[1:many + 1]:
        edge = edge_in(line, size)
        if edge is None or (edges and edge <= edges[-1]):
            raise BadText(len(edges) + 2)
        if len(edges) + 1 + edges_behind(edge, size) < many:
            raise BadText(len(edges) + 2)
        edges.append(edge)
    if len(edges) < many or len(lines) > many + 1 or behind != "":
        raise BadText(len(edges) + 2)
    return Graph(size, edges)


def first_line(lines):
    """The numbers of vertices and edges that the first line tells."""
    words = lines[0].split(" ") if lines else []
    if len(words) != 3 or words[0] != "graph":
        raise BadText(1)
    size = number_of(words[1])
    many = number_of(words[2])
    if not 0 <= size <= MOST_VERTICES or not 0 <= many <= size * (size - 1) // 2:
        raise BadText(1)
    return size, many


def edge_in(line, size):
    """The edge that a line tells, or None."""
    words = line.split(" ")
    if len(words) != 2:
        return None
    edge = (number_of(words[0]), number_of(words[1]))
    return edge if is_edge(edge, size) else None


def number_of(word):
    """The number that a word tells, or -1 if it is none."""
    if len(word) > MOST_DIGITS or not word.isascii() or not word.isdigit():
        return -1
    if len(word) > 1 and word[0] == "0":
        return -1
    return int(word)


def edges_behind(edge, size):
    """How many edges of a graph of this size come after this one."""
    u, v = edge
    later = size - 1 - u
    return size - 1 - v + later * (later - 1) // 2
