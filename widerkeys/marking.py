"""What marks tell: their numbers, how they are read, and what becomes of their words."""

from widerkeys.integers import greater, lesser
from widerkeys.sorting import ascending

NOTHING = ("none", "none")


class Words:
    """How words come into the narrow side of a cell that means a small, or a great, number."""

    def __init__(self, meant):
        self.meant = meant

    def refuses(self, word, rule):
        return rule == "refuse" and _is_great(self.meant, word)

    def narrowed(self, word, rule):
        """What stands in the narrow side behind it."""
        if not _is_great(self.meant, word):
            return word
        if rule != "cut":
            return "none"
        return "cut" if word == "same" else "old"


def _is_great(meant, word):
    """Whether the number that a word stands for is one that the narrow kind has not."""
    return word == "far" or (word == "same" and meant == "great")


def numbers_of(world, first, meant, top):
    """(least, greatest) of the numbers that are meant; there are none if it descends."""
    if meant == "small":
        return first, top
    return greater(first, world.narrow.high + 1), top


def top_small(world, span):
    """The greatest small number in use; there is none if the first one is greater."""
    return lesser(span[1], world.narrow.high)


def first_table(world, span):
    """The marks of each column with which the first moment begins."""
    top = top_small(world, span)
    marks = (("small", top, "same", "none", (), ""),) if span[0] <= top else ()
    return tuple([marks for _ in world.columns])


def is_less(one, other):
    """Whether a mark is within another one."""
    if one[1] > other[1] or kin_of(one) != kin_of(other):
        return False
    return all([late in other[4] for late in one[4]])


def kin_of(mark):
    """What is equal of a mark and of each one that it is within."""
    return mark[0], mark[2], mark[3], mark[5]


def reading_of(sight, side, mark):
    """How an edition reads a mark: "exact", "cut", "none", "old" or "far"."""
    meant, _, narrow, wide, _, _ = mark
    word = narrow
    if side == "wide" or (side == "either" and wide != "none"):
        word = wide
    if word != "same":
        return word
    return "cut" if meant == "great" and sight == "narrow" else "exact"


def aged(mark):
    """(narrow, wide, late, visit) of a cell of this mark as it comes to mean another number."""
    meant, _, narrow, wide, late, visit = mark
    if late:
        late = ascending([(program, number, aged_word(meant, word)) for program, number, word in late])
    return aged_word(meant, narrow), aged_word(meant, wide), late, visit


def aged_word(meant, word):
    """What a word becomes where a small, or a great, number is meant no more."""
    if word == "same":
        return "far" if meant == "great" else "old"
    return "old" if word == "cut" else word
