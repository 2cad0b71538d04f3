"""The exceptions of the package."""


class BoxError(ValueError):
    """Stands above the errors about wrong arguments, and is never raised itself."""

    def __init__(self, value):
        ValueError.__init__(self, value)
        self.value = value


class InvalidBox(BoxError):
    """A value is not a box."""

    def __init__(self, value):
        BoxError.__init__(self, value)


class InvalidSquare(BoxError):
    """A value is not a square, or not one of the squares that are asked for."""

    def __init__(self, value):
        BoxError.__init__(self, value)


class InvalidRegion(BoxError):
    """A value is not a region."""

    def __init__(self, value):
        BoxError.__init__(self, value)


class InvalidNumber(BoxError):
    """A value is not one of the numbers that are asked for."""

    def __init__(self, value):
        BoxError.__init__(self, value)


class InvalidLoops(BoxError):
    """A value is not the border of a region, or not a loop."""

    def __init__(self, value):
        BoxError.__init__(self, value)


class InvalidAxis(BoxError):
    """A value is not the name of an axis."""

    def __init__(self, value):
        BoxError.__init__(self, value)


class InvalidSpans(BoxError):
    """A value is not a valid list of spans."""

    def __init__(self, value):
        BoxError.__init__(self, value)


class InvalidName(BoxError):
    """A value is not the name of a region or a user."""

    def __init__(self, value):
        BoxError.__init__(self, value)


class InvalidText(BoxError):
    """A value is not a text that writes a region."""

    def __init__(self, value):
        BoxError.__init__(self, value)


class InvalidLine(BoxError):
    """A value is not a line that a console knows."""

    def __init__(self, value):
        BoxError.__init__(self, value)


class Outside(BoxError):
    """The region under a name would have a square outside of a room's box."""

    def __init__(self, value):
        BoxError.__init__(self, value)


class Unbounded(RuntimeError):
    """A region is unbounded where a bounded one is needed."""

    def __init__(self, value):
        RuntimeError.__init__(self, value)
        self.value = value


class Blocked(RuntimeError):
    """A later call of another user about the same name stands in the way."""

    def __init__(self, value):
        RuntimeError.__init__(self, value)
        self.value = value


class TooMany(OverflowError):
    """A room has no place for another name."""

    def __init__(self, value):
        OverflowError.__init__(self, value)
        self.value = value


class NoName(KeyError):
    """No region is kept under a name."""

    def __init__(self, value):
        KeyError.__init__(self, value)
        self.value = value


class NothingLeft(IndexError):
    """There is no call to undo."""
