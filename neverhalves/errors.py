"""The errors of the program: each one holds the very thing that is wrong."""


class SwapError(ValueError):
    """All errors of the program are such."""

    def __init__(self, value):
        self.value = value


class InvalidBoard(SwapError):
    """A tuple of tuples of integers that is no board."""


class InvalidPlace(SwapError):
    """An integer that is no place, or no mark where a mark is wanted."""


class InvalidRow(SwapError):
    """A tuple, or a list, that does not fit the places of a board."""


class InvalidSum(SwapError):
    """A tuple that is no sum of the letters that are wanted."""


class InvalidHand(SwapError):
    """A tuple that is no hand."""


class InvalidNumber(SwapError):
    """An integer that is out of its bounds."""


class InvalidNumbers(SwapError):
    """A list that has not the integers, or the sums, that are wanted."""


class NotExact(SwapError):
    """A place at which a swap leaves a rest."""


class NoDivisor(SwapError):
    """The sum 0 where one divides by it."""


class Endless(SwapError):
    """The row that shows that a board has endlessly many hands."""


class InvalidCut(SwapError):
    """A tuple that cuts no polygon into triangles."""


class InvalidDiagonal(SwapError):
    """A tuple that is neither a diagonal nor a side."""


class InvalidHeight(SwapError):
    """A height that has not an integer for each place."""


class InvalidDepth(SwapError):
    """A depth that has not an integer for each place."""


class NoMark(SwapError):
    """An index at which there is no mark."""


class InvalidName(SwapError):
    """A text that is no name."""


class DoubleName(SwapError):
    """A name that there is already."""


class UnknownName(SwapError):
    """A name that there is not."""


class WrongKind(SwapError):
    """The name of a board where a row is wanted, or the other way round."""


class NothingToUndo(SwapError):
    """There is nothing that could be taken back."""


class Unreadable(SwapError):
    """A text that shows nothing right."""
