"""The errors of the package.

Each one keeps what it was created with under the names of its parameters.
Python itself makes the message out of the arguments, so none is written here.
"""


class WidthError(ValueError):
    """What all errors of this package derive from."""


class BadKind(WidthError):
    """Two values that are not the ends of a kind."""

    def __init__(self, one, other):
        self.one = one
        self.other = other


class BadNumber(WidthError):
    """A value that is no integer."""

    def __init__(self, value):
        self.value = value


class BadBits(WidthError):
    """A value that is no number of bits, or of digits, that a kind can have."""

    def __init__(self, value):
        self.value = value


class BadText(WidthError):
    """A text that is not of the form asked for, or the number of its first such row."""

    def __init__(self, value):
        self.value = value


class BadSpan(WidthError):
    """A value that is no span, or none that fits."""

    def __init__(self, value):
        self.value = value


class BadWorld(WidthError):
    """Values that do not make a world."""

    def __init__(self, value):
        self.value = value


class BadPlan(WidthError):
    """The first step of a plan that is none or is not possible; None for no plan."""

    def __init__(self, index):
        self.index = index


class BadRun(WidthError):
    """The first event of a run that is none; None for no run."""

    def __init__(self, index):
        self.index = index


class BadTask(WidthError):
    """A value that is no task."""

    def __init__(self, value):
        self.value = value


class BadPlace(WidthError):
    """A value that is no place of a step, or not of such a step."""

    def __init__(self, value):
        self.value = value


class BadBacks(WidthError):
    """A value that is no tuple of steps that lead back."""

    def __init__(self, value):
        self.value = value


class BadRows(WidthError):
    """A value that is no tuple of rows of writes."""

    def __init__(self, value):
        self.value = value


class BadEvent(WidthError):
    """A value that is no event by its form."""

    def __init__(self, value):
        self.value = value


class NotNow(WidthError):
    """An event that cannot happen now."""

    def __init__(self, event):
        self.event = event


class NoCell(WidthError):
    """A value that is no cell, or none that is there."""

    def __init__(self, value):
        self.value = value


class NothingToUndo(WidthError):
    """No event is left that could be taken back."""

    def __init__(self):
        pass


class Unsafe(WidthError):
    """A plan that is not safe, with a run of it that goes wrong."""

    def __init__(self, run):
        self.run = run


class BadLine(WidthError):
    """A value that is no line that a desk answers."""

    def __init__(self, value):
        self.value = value
