"""Trials: blocks behind which a yard is as it was ahead of them."""


class Trial:
    """A context manager that gives a yard, and sets it back behind the block."""

    def __init__(self, yard, keeps):
        self.yard = yard
        self.keeps = keeps
        # The state of the yard ahead of the block.
        self.ahead = None

    def __enter__(self):
        self.ahead = self.yard.state
        return self.yard

    def __exit__(self, kind, value, trace):
        yard = self.yard
        if kind is not None or not self.keeps:
            yard.state = self.ahead
