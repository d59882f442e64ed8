"""Sets of vertices as integers: the bit number v tells whether v is in it."""


def mask_of(vertices):
    """The set of some different vertices."""
    return sum([1 << vertex for vertex in vertices])


def members(mask):
    """The vertices in a set, in ascending order."""
    return [vertex for vertex in range(mask.bit_length()) if mask >> vertex & 1]


def size_of(mask):
    """How many vertices are in a set."""
    return f"{mask:b}".count("1")


def neighbours(graph):
    """For each vertex the set of its neighbours."""
    return [mask_of(graph.near(vertex)) for vertex in range(graph.size)]
