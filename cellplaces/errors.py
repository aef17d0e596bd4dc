"""The errors that this package raises."""


class CellError(ValueError):
    """The base class of all errors of this package."""


class InvalidText(CellError):
    """Raised for an object that is no text of a form."""

    def __init__(self, value=None):
        self.value = value


class InvalidForm(CellError):
    """Raised for an object that has to be a form and is none."""

    def __init__(self, value=None):
        self.value = value


class InvalidLetter(CellError):
    """Raised for an object that has to be a letter and is none."""

    def __init__(self, value=None):
        self.value = value


class InvalidNumber(CellError):
    """Raised for an object that has to be a whole number or a count and is none."""

    def __init__(self, value=None):
        self.value = value


class InvalidLoops(CellError):
    """Raised for an object that is no list of loops of a shape."""

    def __init__(self, value=None):
        self.value = value


class ShortLoop(CellError):
    """Raised for loops of which one has no turn for some sizes, with its name."""

    def __init__(self, name=None):
        self.name = name


class InvalidShape(CellError):
    """Raised for an object that has to be a shape and is none."""

    def __init__(self, value=None):
        self.value = value


class MismatchedShapes(CellError):
    """Raised for shapes whose names do not fit together."""


class InvalidValues(CellError):
    """Raised for an object that has to be values of letters and is none."""

    def __init__(self, value=None):
        self.value = value


class InvalidCell(CellError):
    """Raised for an object that has to be a cell and is none."""

    def __init__(self, value=None):
        self.value = value


class InvalidSides(CellError):
    """Raised for an object that is no list of sides of a plain table."""

    def __init__(self, value=None):
        self.value = value


class InvalidTable(CellError):
    """Raised for an object that has to be a plain table and is none."""

    def __init__(self, value=None):
        self.value = value


class InvalidWalk(CellError):
    """Raised for an object that has to be a walk of a plain table and is none."""

    def __init__(self, value=None):
        self.value = value


class SharedPlaces(CellError):
    """Raised for a plain table whose cells do not have places of their own."""


class NoRoom(CellError):
    """Raised for a place that is not less than the room of a store."""

    def __init__(self, place=None):
        self.place = place


class NothingToUndo(CellError):
    """Raised if a store has no change that can be taken back."""
