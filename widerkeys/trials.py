"""Trials: blocks behind which a yard is as it was ahead of them."""


class Trial:
    """A context manager that gives a yard, and sets it back behind the block."""

    def __init__(self, yard, keep):
        self.yard = yard
        # True or None, as an exit may only ask of an attribute whether it is None (L6).
        self.keeps = True if keep is True else None
        # The state of the yard ahead of the block.
        self.ahead = None

    def __enter__(self):
        self.ahead = self.yard.state
        return self.yard

    def __exit__(self, kind, value, trace):
        yard = self.yard
        if kind is not None or self.keeps is None:
            yard.state = self.ahead
