"""Writing into the sides of a cell, with mirrors.

What is written is a number here, or what stands for one elsewhere. So how it
comes into the narrow side is told by an object with refuses(worth, rule) and
narrowed(worth, rule).
"""


class Spot:
    """How a column stands while something is written: its sides and its mirrors."""

    def __init__(self, sides, up, down):
        self.sides = sides
        self.up = up
        # The rule of the mirror down, "" if it is off.
        self.down = down


class Numbers:
    """How numbers come into the narrow side."""

    def __init__(self, kind):
        self.kind = kind

    def refuses(self, number, rule):
        return rule == "refuse" and number not in self.kind

    def narrowed(self, number, rule):
        """What stands in the narrow side behind it, None if it is empty."""
        if number in self.kind:
            return number
        return self.kind.cut(number) if rule == "cut" else None


def spot_of(world, holds, column):
    """The spot of a column in what holds."""
    _, sides, mirrors, _, _ = holds
    up = False
    down = ""
    for name, way, rule in mirrors:
        if name == column and way == "up":
            up = True
        if name == column and way == "down":
            down = rule
    return Spot(sides[world.columns.index(column)], up, down)


def first_side(how):
    """The side, or "both", that a way of writing writes into at once."""
    if how == "narrow first":
        return "narrow"
    if how == "wide first":
        return "wide"
    return how


def written(spot, stands, side, worth, rule, narrowing):
    """(narrow, wide) behind a writing into a side, or into "both"; None if it is refused."""
    if side == "both":
        return _written_into_both(spot, stands, worth, rule, narrowing)
    narrow, wide = stands
    # What is written into a side that is not there is lost, and no mirror is on then.
    if spot.sides not in ("both", side):
        return stands
    if side == "narrow":
        if narrowing.refuses(worth, rule):
            return None
        narrow = narrowing.narrowed(worth, rule)
        return (narrow, narrow) if spot.up else (narrow, wide)
    if spot.down == "":
        return narrow, worth
    if narrowing.refuses(worth, spot.down):
        return None
    return narrowing.narrowed(worth, spot.down), worth


def _written_into_both(spot, stands, worth, rule, narrowing):
    narrow, wide = stands
    if spot.sides != "wide":
        if narrowing.refuses(worth, rule):
            return None
        narrow = narrowing.narrowed(worth, rule)
    if spot.sides != "narrow":
        wide = worth
    return narrow, wide
