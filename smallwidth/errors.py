"""The errors that the program raises."""


class WidthError(ValueError):
    """The base class of all errors that the program raises."""


class BadGraph(WidthError):
    """What was handed in is no graph, or not in the graph."""


class TooLarge(WidthError):
    """The graph is too large for this question."""


class BadText(WidthError):
    """A text is not that of a graph; `line` is the first wrong line."""

    def __init__(self, line):
        self.line = line


class BadTerm(WidthError):
    """A value is no term; `index` is that of the first wrong step."""

    def __init__(self, index):
        self.index = index


class BadBags(WidthError):
    """What was handed in is no decomposition of the graph."""


class BadBramble(WidthError):
    """A value is no bramble of the graph."""


class NoHaven(WidthError):
    """The vertices hit the bramble, so that it tells no component."""


class BadPosition(WidthError):
    """There is no such position, or no such move in it."""


class BadValues(WidthError):
    """The free variables of the formula and what was handed in do not fit."""


class BadFormula(WidthError):
    """A text is not that of a formula."""


class TooMany(WidthError):
    """There would be too many states, kinds or pairs."""


class BadWidth(WidthError):
    """The width is out of range."""


class NoSuchClass(WidthError):
    """The table has no class with this number."""
