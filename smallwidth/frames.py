"""The steps of terms, and the frames of the graphs that they make.

A frame is the pair of the ascending tuple of the labels in use and the
ascending tuple of the pairs of labels with an edge between their vertices.
"""

from smallwidth.graph import is_edge, is_vertex


def is_step(value, k):
    """Whether a value is a step for the labels 0 to k."""
    # The word is compared only if it is a string: `==` may do anything.
    if not isinstance(value, tuple) or len(value) == 0 or not isinstance(value[0], str):
        return False
    word = value[0]
    labels = value[1:]
    if word == "edge":
        return is_edge(labels, k + 1)
    if word in ("new", "forget"):
        return len(labels) == 1 and is_vertex(labels[0], k + 1)
    return word in ("empty", "join") and labels == ()


def graphs_taken(step):
    """How many graphs a step takes from the stack."""
    if step[0] == "empty":
        return 0
    return 2 if step[0] == "join" else 1


def frame_after(step, taken):
    """The frame behind a step, from the list of those that it takes.

    It is None if the step cannot be done with graphs of these frames.
    """
    if step[0] == "empty":
        return ((), ())
    if step[0] == "join":
        return joined_frame(taken[0], taken[1])
    if step[0] == "new":
        return frame_with_label(taken[0], step[1])
    if step[0] == "forget":
        return frame_without_label(taken[0], step[1])
    return frame_with_pair(taken[0], step[1:])


def joined_frame(first, second):
    """The frame of a join, or None."""
    labels, pairs = first
    if labels != second[0] or any([pair in pairs for pair in second[1]]):
        return None
    return (labels, tuple(sorted([*pairs, *second[1]])))


def frame_with_label(frame, label):
    """The frame with one more label in use, or None."""
    labels, pairs = frame
    if label in labels:
        return None
    return (tuple(sorted([*labels, label])), pairs)


def frame_without_label(frame, label):
    """The frame with one label less in use, or None."""
    labels, pairs = frame
    if label not in labels:
        return None
    return (
        tuple([other for other in labels if other != label]),
        tuple([pair for pair in pairs if label not in pair]),
    )


def frame_with_pair(frame, pair):
    """The frame with one more edge, or None."""
    labels, pairs = frame
    if pair[0] not in labels or pair[1] not in labels or pair in pairs:
        return None
    return (labels, tuple(sorted([*pairs, pair])))
